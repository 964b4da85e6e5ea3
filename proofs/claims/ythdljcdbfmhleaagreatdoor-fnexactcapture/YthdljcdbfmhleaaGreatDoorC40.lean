import Derived.Test.YthdljcdbfmhleaaGreatDoorC39
import Derived.Laws.CopyOwn
import Derived.Deep.DrawnRows
namespace Go.Proofs.YthdljcdbfmhleaaGreatDoor
set_option maxHeartbeats 2000000
set_option maxRecDepth 100000
open Go.RowKit
section
def mz:Pt->Nat
 |.rep b mn mx=>2*(szT b+1)+(if mn=0/\mx=-1 then 0 else 1)
 |p=>2*szT p+1
theorem zqO(p:Pt):2*szT p<=mz p/\mz p<=2*szT p+1:=by
 cases p with
 |rep b mn mx=>simp only[mz,szT];split<;>omega
 |_=>simp[mz]
theorem zdO{p q:Pt}(h:szT q<szT p):mz q<mz p:=by have:=zqO p;have:=zqO q;omega
theorem zdp:∀(p q:Pt),q∈zaW p->szT q<=szT p
 |.alt l r,q,h=>by
  rcases zrR.1 (show q∈zaW l++zaW r from h) with h|h
  ·have:=zdp l q h;simp[szT];omega
  ·have:=zdp r q h;simp[szT];omega
 |.set _,q,h=>by rw[zrY.1 (show q∈[_] from h)];exact zsa _
 |.seq _ _,q,h=>by rw[zrY.1 (show q∈[_] from h)];exact zsa _
 |.rep _ _ _,q,h=>by rw[zrY.1 (show q∈[_] from h)];exact zsa _
 |.grp _ _,q,h=>by rw[zrY.1 (show q∈[_] from h)];exact zsa _
theorem zkn:∀(p q:Pt),q∈zbU p->szT q<=szT p
 |.seq l r,q,h=>by
  rcases zrS.1 (show q∈l::zbU r from h) with h|h
  ·subst h;simp[szT];omega
  ·have:=zkn r q h;simp[szT];omega
 |.set _,q,h=>by rw[zrY.1 (show q∈[_] from h)];exact zsa _
 |.alt _ _,q,h=>by rw[zrY.1 (show q∈[_] from h)];exact zsa _
 |.rep _ _ _,q,h=>by rw[zrY.1 (show q∈[_] from h)];exact zsa _
 |.grp _ _,q,h=>by rw[zrY.1 (show q∈[_] from h)];exact zsa _
theorem zpd{b q:Pt}{mn:Nat}{mx:Int}{o:Bool}(h:(q,o)∈repL b mn mx):q=b\/(mx=-1/\q=.rep b 0 (-1)):=by
 unfold repL at h;rcases zrR.1 h with h|h
 ·have:=(List.mem_replicate.1 h).2;injection this with h1;exact .inl h1
 ·rcases zrR.1 h with h|h
  ·have:=(List.mem_replicate.1 h).2;injection this with h1;exact .inl h1
  ·by_cases e:mx=-1
   ·rw[zst e] at h;have:=zrY.1 h;injection this with h1;exact .inr ⟨e,h1⟩
   ·rw[zss e] at h;cases h
theorem zkB{p q:Pt}{o:Bool}(h3:∀b,p≠.rep b 0 (-1))(h:(q,o)∈zba p):mz q<mz p:=by
 cases p with
 |set f=>cases h
 |alt l r=>cases h
 |grp b g=>cases h
 |seq l r=>
  obtain⟨x,h1,h2⟩:=zrV.1 (show (q,o)∈(zbU (.seq l r)).map fun q=>(q,false) from h);injection h2 with h2
  subst h2;rcases zrS.1 (show x∈l::zbU r from h1) with e|e
  ·subst e;exact zdO (by simp[szT];omega)
  ·have:=zkn r x e;exact zdO (by simp[szT];omega)
 |rep b mn mx=>
  rcases zpd (show (q,o)∈repL b mn.toNat mx from h) with rfl|⟨rfl,rfl⟩
  ·exact zdO (by simp[szT])
  ·have:¬mn=0:=fun e=>h3 b (by rw[e])
   simp[mz,this]
theorem zmh{u:Word}{n:Nat}{ls:List Lnk}{i:Nat}{L:Laid}(h:ChR u n ls i L):∀x,x∈L->∃o,(x.1,o)∈ls:=by
 induction h with
 |nil i=>intro x hx;cases hx
 |stop q o ls i h=>intro x hx;cases hx
 |cons q o ls i e L g _ ih=>
  intro x hx;rcases zrS.1 hx with rfl|hx
  ·exact⟨o,zrU ..⟩
  ·obtain⟨o',h1⟩:=ih x hx;exact⟨o',zrT _ h1⟩
theorem zqo{u:Word}{n:Nat}{b:Pt}{i:Nat}{L:Laid}(h:RoR u n b i L):∀x,x∈L->x.1=b:=by
 induction h with
 |done=>intro x hx;cases hx
 |more i e L hi g _ ih=>
  intro x hx;rcases zrS.1 hx with rfl|hx
  ·rfl
  ·exact ih x hx
theorem zqa{u:Word}{i n:Nat}:∀(p:Pt) (L:Laid),LayC u i n p L->∀x,x∈L->mz x.1<mz p
 |.set _,L,h,x,hx=>by have h:L=[]:=h;subst h;cases hx
 |.grp b g,L,h,x,hx=>by
  have h:L=[(b,n)]:=h;subst h;rw[zrY.1 hx];exact zdO (by simp[szT])
 |.alt p q,L,⟨k,y,h1,_,_,h4⟩,x,hx=>by
  subst h4;rw[zrY.1 hx];rcases zrR.1 (show y∈zaW p++zaW q from zrW h1) with h|h
  ·have:=zdp p y h;exact zdO (by simp[szT];omega)
  ·have:=zdp q y h;exact zdO (by simp[szT];omega)
 |.seq p q,L,h,x,hx=>by
  obtain⟨o,h1⟩:=zmh (show ChR u n (zd9 (zbU (.seq p q))) i L from h) x hx;exact zkB (p:=.seq p q) (fun b e=>(by cases e)) h1
 |.rep b mn mx,L,h,x,hx=>by
  replace h:if mn=0/\mx=-1 then RoR u n b i L else ChR u n (repL b mn.toNat mx) i L:=h
  by_cases e:mn=0/\mx=-1
  ·rw[zst e] at h;rw[zqo h x hx];exact zdO (by simp[szT])
  ·rw[zss e] at h;obtain⟨o,h1⟩:=zmh h x hx;exact zkB (p:=.rep b mn mx) (fun b' e2=>by injection e2 with _ e3 e4;exact e ⟨e3,e4⟩) h1
theorem zkz{u:Word}{j:Nat}:∀(L:Laid) (i:Nat),LdOk u j L i->(∀x,x∈L->OkP x.1)->∃l,LdR u L i l
 |[],i,_,_=>⟨[],.nil i⟩
 |(q,e)::L,i,⟨h1,_,h3⟩,ho=>by
  obtain⟨l1,k1⟩:=zcj q (ho _ (zrU ..)) i e h1;obtain⟨l2,k2⟩:=zkz L e h3 (fun x hx=>ho x (zrT _ hx));exact⟨l1++l2,.cons q e L i l1 l2 k1 k2⟩
theorem zh3{p:Pt}(h:noG p)(i j:Nat):zdL p i j=[]:=by
 cases p with
 |grp b g=>exact h.elim
 |_=>rfl
structure PlW(w0:World)(pl:Nat)(Q:Nat->Option Pt)(bs bt bp gs m cap:Nat)(t:ByteArray)(Ow:Nat->Nat->Prop)(w:World)(sp:List (Int×Int)):Prop where
 inv:PnI w0 pl Q Ow w
 xs:w.heap[bs]?=some (.cells #[.slice (some ⟨gs,0,none⟩) m cap] 26 (0,0))
 xt:w.heap[bt]?=some (.cells #[.string t] 9 (0,0))
 xp:w.heap[bp]?=some (.cells #[.func (.func 68) #[] #[.pointer (some ⟨bs,0,none⟩),.pointer (some ⟨bt,0,none⟩),.pointer (some ⟨bp,0,none⟩)]] 92 (0,0))
 row:w.ownsRow w0.heap.size 50 2 (.slice (some ⟨gs,0,none⟩) m cap) m (pv sp)
 len:sp.length=m
 fs:w0.heap.size<=bs/\∀b,¬Ow bs b
 ft:w0.heap.size<=bt/\∀b,¬Ow bt b
 fp:w0.heap.size<=bp/\∀b,¬Ow bp b
 fg:w0.heap.size<=gs/\∀b,¬Ow gs b
structure PlT(w0:World)(gs:Nat)(Ow:Nat->Nat->Prop)(w:World)(Ow':Nat->Nat->Prop)(w':World):Prop where
 size:w.heap.size<=w'.heap.size
 fre:∀k,w0.heap.size<=k->k<w.heap.size->k≠gs->(∀b,¬Ow k b)->w'.heap[k]?=w.heap[k]?/\∀b,¬Ow' k b
theorem PlT.trans{w0:World}{gs:Nat}{Ow Ow1 Ow2:Nat->Nat->Prop}{w w1 w2:World}(h:PlT w0 gs Ow w Ow1 w1)(k:PlT w0 gs Ow1 w1 Ow2 w2):PlT w0 gs Ow w Ow2 w2:=
 ⟨zsb h.size k.size,fun j h1 h2 h3 h4=>by
  obtain⟨e1,f1⟩:=h.fre j h1 h2 h3 h4;obtain⟨e2,f2⟩:=k.fre j h1 (zsc h2 h.size) h3 f1;exact⟨e2.trans e1,f2⟩⟩
section
variable {w0:World} {pl:Nat} {Q:Nat->Option Pt} {bs bt bp gs m cap:Nat} {t:ByteArray} {Ow Ow':Nat->Nat->Prop} {w w':World} {sp:List (Int×Int)}
theorem PlW.glt(h:PlW w0 pl Q bs bt bp gs m cap t Ow w sp):gs<w.heap.size:=by
 rcases h.row.2 with ⟨e,_⟩|⟨g,c,cur,e,_,h2,_⟩
 ·cases e
 ·cases e;exact(zrc.1 h2).1
theorem PlW.pnt(h:PlW w0 pl Q bs bt bp gs m cap t Ow w sp)(k:PnT w0 pl Q Ow w Ow' w'):PlW w0 pl Q bs bt bp gs m cap t Ow' w' sp/\PlT w0 gs Ow w Ow' w':=by
 have ls:=(zrc.1 h.xs).1;have lt:=(zrc.1 h.xt).1;have lp:=(zrc.1 h.xp).1;obtain⟨s1,s2⟩:=k.fre bs h.fs.1 ls h.fs.2;obtain⟨t1,t2⟩:=k.fre bt h.ft.1 lt h.ft.2;obtain⟨p1,p2⟩:=k.fre bp h.fp.1 lp h.fp.2;obtain⟨g1,g2⟩:=k.fre gs h.fg.1 h.glt h.fg.2;exact⟨⟨k.inv,s1.trans h.xs,t1.trans h.xt,p1.trans h.xp,zaO h.row (fun b e=>by
  have e:gs=b:=by simpa [Value.ownBlock] using e
  subst e;exact g1),h.len,⟨h.fs.1,s2⟩,⟨h.ft.1,t2⟩,⟨h.fp.1,p2⟩,⟨h.fg.1,g2⟩⟩,⟨k.size,fun j h1 h2 _ h4=>k.fre j h1 h2 h4⟩⟩
theorem PlW.store(h:PlW w0 pl Q bs bt bp gs m cap t Ow w sp)(g:Nat)(hg:g<m)(i j:Int):PlW w0 pl Q bs bt bp gs m cap t Ow ((w.setCell ⟨gs,g*2,none⟩ (.int .i64 i)).setCell ⟨gs,g*2+1,none⟩ (.int .i64 j)) (sp.set g (i,j))/\PlT w0 gs Ow w Ow ((w.setCell ⟨gs,g*2,none⟩ (.int .i64 i)).setCell ⟨gs,g*2+1,none⟩ (.int .i64 j)):=by
 obtain⟨o1,k1⟩:=h.row.stored (g*2) (.int .i64 i);obtain⟨o2,k2⟩:=o1.stored (g*2+1) (.int .i64 j);rw[znA _ _ _ _ (by rw[h.len];exact hg)] at o2;obtain⟨W,hW⟩:∃W,(w.setCell ⟨gs,g*2,none⟩ (.int .i64 i)).setCell ⟨gs,g*2+1,none⟩ (.int .i64 j)=W:=⟨_,rfl⟩;rw[hW] at o2 k2 ⊢;have tc:zan (· = gs) w W:=((zan.refl _ w).grown k1 (fun k e=>.inl (Option.some.inj e).symm)).grown k2 (fun k e=>.inl (Option.some.inj e).symm);have hc:∃cur,w.heap[gs]?=some (.cells cur 50 (0,0)):=by
  rcases h.row.2 with ⟨e,_⟩|⟨g,c,cur,e,_,h2,_⟩
  ·cases e
  ·cases e;exact⟨cur,h2⟩
 have ne:∀{k:Nat} {cs:Array Value} {ty:TypeId},w.heap[k]?=some (.cells cs ty (0,0))->ty≠50->k≠gs:=fun e1 e2 e3=>by
  obtain⟨cur,h2⟩:=hc;rw[e3,h2] at e1;exact e2 (zad e1).symm
 have sm:∀{k:Nat} {cs:Array Value} {ty:TypeId},w.heap[k]?=some (.cells cs ty (0,0))->ty≠50->W.heap[k]?=some (.cells cs ty (0,0)):=fun e1 e2=>(tc.same _ (zrc.1 e1).1 (ne e1 e2)).trans e1
 have km:zaJ w W:=fun mg f e=>sm e (by decide)
 exact⟨⟨h.inv.free tc km (fun k e=>by have e:k=gs:=e;subst e;exact h.fg),sm h.xs (by decide),sm h.xt (by decide),sm h.xp (by decide),o2,by rw[List.length_set];exact h.len,h.fs,h.ft,h.fp,h.fg⟩,⟨tc.size,fun k h1 h2 h3 h4=>⟨tc.same k h2 h3,h4⟩⟩⟩
end
end
section
attribute [local go_sem ↓] Go.wp_at_zero Go.wp_at_succ
theorem zmV(g cap n:Nat)(pa:Nat->Nat)(fs:Nat->Value)(w:World)(hr:∀i,i<n->w.cell? ⟨g,i,none⟩=some (.pointer (some ⟨pa i,0,none⟩)))(hf:∀i,i<n->w.cell? ⟨pa i,2,none⟩=some (fs i))(hv:∀i,i<n->fs i=.nilIface\/∃t x,fs i=.iface t x)(hn:n<=100000):
  Calls Tryz.prog 103 #[.slice (some ⟨g,0,none⟩) n cap,.func (.func 83) #[] #[]] w fun e w'=>((e=.returned (.int .i64 (-1))/\∀i,i<n->fs i=.nilIface)\/∃k:Nat,e=.returned (.int .i64 k)/\k<n/\fs k≠.nilIface)/\Below w.heap.size w w':=by
 have Hr:Hid _:=hr;have Hf:Hid _:=hf;have Hv:Hid _:=hv;clear hr hf hv
 go_enter Tryz.func103,Tryz.ntmps103
 go_wp2
 go_loopw [8] (fun i wr=>∃k:Nat,k<=n/\i=.int .i64 k/\Hid (∀j,j<k->fs j=.nilIface)/\Below w.heap.size w wr) (fun i _=>n-(intOf i).toNat)
 case atStart=>exact⟨0,zsj _,rfl,fun j hj=>absurd hj (zsg _),Below.refl _ _⟩
 case round=>
  obtain⟨k,hk,rfl,HK,hb⟩:=hrel
  by_cases hlt:k<n
  ·have c0:=Hr.out k hlt;have c1:=Hf.out k hlt;have d0:wr.cell? ⟨g,k,none⟩=some (.pointer (some ⟨pa k,0,none⟩)):=(hb.cell (p:=⟨g,k,none⟩) (block_lt_of_cell c0)).trans c0;have d1:wr.cell? ⟨pa k,2,none⟩=some (fs k):=(hb.cell (p:=⟨pa k,2,none⟩) (block_lt_of_cell c1)).trans c1;have hi0:(0:Int)<=(k:Int):=by omega
   have hi1:(k:Int)<(n:Int):=by omega
   rcases Hv.out k hlt with e|⟨t,x,e⟩
   ·rw[e] at d1;clear c0 c1;go_wp2
    go_roundw
    case rel=>exact⟨k+1,by omega,by go_num,fun j hj=>by
     by_cases e2:j=k
     ·rw[e2];exact e
     ·exact HK.out j (by omega),hb⟩
    case measure=>simp[intOf];omega
   ·rw[e] at d1;have He:Hid _:=e;clear c0 c1 e;go_wp2;go_ret;exact⟨.inr ⟨k,rfl,hlt,by rw[He.out];simp⟩,hb⟩
  ·obtain rfl:n=k:=by omega
   go_wp2;go_ret;exact⟨.inl ⟨rfl,HK.out⟩,hb⟩
theorem zhT(g cap n:Nat)(pa:Nat->Nat)(fs:Nat->Value)(w:World)(hr:∀i,i<n->w.cell? ⟨g,i,none⟩=some (.pointer (some ⟨pa i,0,none⟩)))(hf:∀i,i<n->w.cell? ⟨pa i,2,none⟩=some (fs i))(hv:∀i,i<n->fs i=.nilIface\/∃t x,fs i=.iface t x)(hn:n<=100000):
  Calls Tryz.prog 82 #[.slice (some ⟨g,0,none⟩) n cap,.func (.func 83) #[] #[]] w fun e w'=>∃b:Bool,e=.returned (.bool b)/\(b=false->∀i,i<n->fs i=.nilIface)/\(b=true->∃i,i<n/\fs i≠.nilIface)/\Below w.heap.size w w':=by
 have hx:=zmV g cap n pa fs w hr hf hv hn;clear hr hf hv
 go_enter Tryz.func82,Tryz.ntmps82
 go_wp2_with fail
 refine hx.mono ?_;rintro e w1 ⟨⟨rfl,h1⟩|⟨k,rfl,h1,h2⟩,hb⟩
 ·have H1:Hid _:=h1;clear h1 hx;go_wp2;go_ret;exact⟨false,rfl,fun _=>H1.out,fun e=>by(cases e),hb⟩
 ·have H2:Hid _:=h2;have hd:decide ((0:Int)<=(k:Int))=true:=by simp
  clear h2 hx;go_wp2;go_ret;exact⟨true,rfl,fun e=>by(cases e),fun _=>⟨k,h1,H2.out⟩,hb⟩
theorem zmU(g cap n:Nat)(pa:Nat->Nat)(os:Nat->Bool)(fs:Nat->Value)(w:World)(hr:∀i,i<n->w.cell? ⟨g,i*2,none⟩=some (.pointer (some ⟨pa i,0,none⟩))/\w.cell? ⟨g,i*2+1,none⟩=some (.bool (os i)))(hf:∀i,i<n->w.cell? ⟨pa i,2,none⟩=some (fs i))(hv:∀i,i<n->fs i=.nilIface\/∃t x,fs i=.iface t x)(hn:n<=100000):
  Calls Tryz.prog 102 #[.slice (some ⟨g,0,none⟩) n cap,.func (.func 80) #[] #[]] w fun e w'=>((e=.returned (.int .i64 (-1))/\∀i,i<n->fs i=.nilIface)\/∃k:Nat,e=.returned (.int .i64 k)/\k<n/\fs k≠.nilIface)/\Below w.heap.size w w':=by
 have Hr:Hid _:=hr;have Hf:Hid _:=hf;have Hv:Hid _:=hv;clear hr hf hv
 go_enter Tryz.func102,Tryz.ntmps102
 go_wp2
 go_loopw [8] (fun i wr=>∃k:Nat,k<=n/\i=.int .i64 k/\Hid (∀j,j<k->fs j=.nilIface)/\Below w.heap.size w wr) (fun i _=>n-(intOf i).toNat)
 case atStart=>exact⟨0,zsj _,rfl,fun j hj=>absurd hj (zsg _),Below.refl _ _⟩
 case round=>
  obtain⟨k,hk,rfl,HK,hb⟩:=hrel
  by_cases hlt:k<n
  ·obtain⟨c0,c2⟩:=Hr.out k hlt;have c1:=Hf.out k hlt;have d0:wr.cell? ⟨g,k*2,none⟩=some (.pointer (some ⟨pa k,0,none⟩)):=(hb.cell (p:=⟨g,k*2,none⟩) (block_lt_of_cell c0)).trans c0;have d2:wr.cell? ⟨g,k*2+1,none⟩=some (.bool (os k)):=(hb.cell (p:=⟨g,k*2+1,none⟩) (block_lt_of_cell c2)).trans c2;have hal:=block_lt_of_cell c1;have hsz:=hb.size;have d1:(wr.alloc (.cells #[.pointer (some ⟨pa k,0,none⟩),.bool (os k)] 155)).cell? ⟨pa k,2,none⟩=some (fs k):=(World.cell?_of_block (Below.heap_alloc _ _ _ (show pa k<wr.heap.size from zsc hal hsz))).trans ((hb.cell (p:=⟨pa k,2,none⟩) hal).trans c1);have hba:Below w.heap.size w (wr.alloc (.cells #[.pointer (some ⟨pa k,0,none⟩),.bool (os k)] 155)):=hb.alloc hsz _;have Hba:Hid _:=hba;have hi0:(0:Int)<=(k:Int):=by omega
   have hi1:(k:Int)<(n:Int):=by omega
   rcases Hv.out k hlt with e|⟨t,x,e⟩
   ·rw[e] at d1;clear c0 c1 c2 hba;go_wp2
    go_roundw
    case rel=>exact⟨k+1,by omega,by go_num,fun j hj=>by
     by_cases e2:j=k
     ·rw[e2];exact e
     ·exact HK.out j (by omega),Hba.out⟩
    case measure=>simp[intOf];omega
   ·rw[e] at d1;have He:Hid _:=e;clear c0 c1 c2 e hba;go_wp2;go_ret;exact⟨.inr ⟨k,rfl,hlt,by rw[He.out];simp⟩,Hba.out⟩
  ·obtain rfl:n=k:=by omega
   go_wp2;go_ret;exact⟨.inl ⟨rfl,HK.out⟩,hb⟩
theorem zhS(g cap n:Nat)(pa:Nat->Nat)(os:Nat->Bool)(fs:Nat->Value)(w:World)(hr:∀i,i<n->w.cell? ⟨g,i*2,none⟩=some (.pointer (some ⟨pa i,0,none⟩))/\w.cell? ⟨g,i*2+1,none⟩=some (.bool (os i)))(hf:∀i,i<n->w.cell? ⟨pa i,2,none⟩=some (fs i))(hv:∀i,i<n->fs i=.nilIface\/∃t x,fs i=.iface t x)(hn:n<=100000):
  Calls Tryz.prog 79 #[.slice (some ⟨g,0,none⟩) n cap,.func (.func 80) #[] #[]] w fun e w'=>∃b:Bool,e=.returned (.bool b)/\(b=false->∀i,i<n->fs i=.nilIface)/\(b=true->∃i,i<n/\fs i≠.nilIface)/\Below w.heap.size w w':=by
 have hx:=zmU g cap n pa os fs w hr hf hv hn;clear hr hf hv
 go_enter Tryz.func79,Tryz.ntmps79
 go_wp2_with fail
 refine hx.mono ?_;rintro e w1 ⟨⟨rfl,h1⟩|⟨k,rfl,h1,h2⟩,hb⟩
 ·have H1:Hid _:=h1;clear h1 hx;go_wp2;go_ret;exact⟨false,rfl,fun _=>H1.out,fun e=>by(cases e),hb⟩
 ·have H2:Hid _:=h2;have hd:decide ((0:Int)<=(k:Int))=true:=by simp
  clear h2 hx;go_wp2;go_ret;exact⟨true,rfl,fun e=>by(cases e),fun _=>⟨k,h1,H2.out⟩,hb⟩
end
section
variable {w:World}{base g n sz:Nat}{xs:List Value}
attribute [local go_sem ↓] Go.wp_at_zero Go.wp_at_succ
theorem zg4(n:Nat)(h:n<4294967296):bits BinOp.and IntKind.u64 (n:Int) 4294967295=(n:Int):=by
 have h1:(BitVec.ofInt 64 (n:Int) &&& BitVec.ofInt 64 (4294967295:Int)).toNat=n:=by
  rw[show (4294967295:Int)=((4294967295:Nat):Int) from rfl,BitVec.ofInt_natCast,BitVec.ofInt_natCast,BitVec.toNat_and,BitVec.toNat_ofNat,BitVec.toNat_ofNat,zsf (by omega),zsf (by omega)];have:=Nat.and_two_pow_sub_one_eq_mod n 32;rw[show (2 ^ 32-1:Nat)=4294967295 from rfl] at this;rw[this];exact zsf (by omega)
 show IntKind.u64.wrap ((BitVec.ofInt 64 (n:Int) &&& BitVec.ofInt 64 (4294967295:Int)).toNat:Int)=_;rw[h1];simp[IntKind.wrap,IntKind.bits,IntKind.signed];omega
theorem znc(n:Nat)(w:World)(hn:n<=4000):
  Calls Tryz.prog 116 #[.int .u64 1,.int .u64 (n:Int)] w fun e w'=>e=.returned (.tuple #[.int .u64 0,.int .u64 (n:Int)])/\w'=w:=by
 have h1:=zg4 n (by omega);have h2:bits BinOp.and IntKind.u64 1 4294967295=1:=zg4 1 (by omega);have h3:bits BinOp.and IntKind.u64 0 4294967295=0:=zg4 0 (by omega);have hi:(n:Int)<=4000:=by omega
 go_enter Tryz.func116,Tryz.ntmps116
 have h4:(n:Int)/4294967296=0:=by omega
 go_wp2;refine zsl (v:=.tuple #[.int .u64 0,.int .u64 (n:Int)]) (by simp[results,Tryz.results116,go_sem]) rfl ⟨rfl,rfl⟩
theorem znd(n:Nat)(w:World)(hn:n<=4000):
  Calls Tryz.prog 93 #[.int .u64 1,.int .u64 (n:Int)] w fun e w'=>e=.returned (.tuple #[.int .u64 0,.int .u64 (n:Int)])/\w'=w:=by
 have hm:=znc n w hn
 go_enter Tryz.func93,Tryz.ntmps93
 go_wp2_with (go_at_call 116;refine hm.mono ?_;rintro e w' ⟨rfl,hw'⟩;subst w')
 refine zsl (v:=.tuple #[.int .u64 0,.int .u64 (n:Int)]) (by simp[results,Tryz.results93,go_sem]) rfl ⟨rfl,rfl⟩
def rp2(x y z1 z2:Value)(n j:Nat):List Value:=(List.range (n*2)).map fun k=>if k<j*2 then (if k%2=0 then x else y) else (if k%2=0 then z1 else z2)
theorem zf3(x y z1 z2:Value)(n j:Nat):(rp2 x y z1 z2 n j).length=n*2:=by simp[rp2]
theorem zdf(x y z1 z2:Value){n j i:Nat}(h:i<n*2):(rp2 x y z1 z2 n j)[i]?=some (if i<j*2 then (if i%2=0 then x else y) else (if i%2=0 then z1 else z2)):=by simp[rp2,h]
def pr2(x y:Value)(c:Nat):List Value:=(List.range (c*2)).map fun k=>if k%2=0 then x else y
theorem zcQ(x y:Value)(c:Nat):(pr2 x y c).length=c*2:=by simp[pr2]
theorem zjS(x y:Value){c i:Nat}(h:i<c*2):(pr2 x y c)[i]?=some (if i%2=0 then x else y):=by simp[pr2,h]
theorem zkQ(x y z1 z2:Value)(n:Nat):rp2 x y z1 z2 n n=pr2 x y n:=by
 unfold rp2 pr2;apply zrP;intro k hk;rw[zst (zrX.1 hk)]
theorem zgQ(x y z1 z2:Value){n j c:Nat}(h:j+c<=n):splice (rp2 x y z1 z2 n j) (j*2) (pr2 x y c)=rp2 x y z1 z2 n (j+c):=by
 apply zrt
 intro i;unfold splice;have hl:=zf3 x y z1 z2 n j;have hp:=zcQ x y c;rw[hp]
 by_cases h1:i<j*2
 ·have e2:i<(j+c)*2:=by omega
  rw[zry (by rw[List.length_take];omega),zrI,zst h1,zdf _ _ _ _ (by omega),zdf _ _ _ _ (by omega),zst h1,zst e2]
 ·rw[zrz (by rw[List.length_take];omega),List.length_take,hl,Nat.min_eq_left (by omega)]
  by_cases h2:i<(j+c)*2
  ·rw[zry (by omega),zdf _ _ _ _ (by omega),zst h2,zjS _ _ (by omega),show (i-j*2)%2=i%2 from by omega]
  ·rw[zrz (by omega),hp,zrC,show j*2+c*2+(i-j*2-c*2)=i by omega]
   by_cases h3:i<n*2
   ·rw[zdf _ _ _ _ h3,zdf _ _ _ _ h3,zss h1,zss h2]
   ·rw[zrE (by omega),zrE (by rw[zf3];omega)]
theorem zkC(x y z1 z2:Value)(n:Nat):(madeCells #[z1,z2] (n*2)).toList=rp2 x y z1 z2 n 0:=by
 apply zrt
 intro i
 by_cases h:i<n*2
 ·rw[zdf _ _ _ _ h];simp[madeCells,h];rcases Nat.mod_two_eq_zero_or_one i with e|e<;>simp[e]
 ·rw[zrE (by simp[madeCells];omega),zrE (by rw[zf3];omega)]
theorem zbC{e:TypeId}(h:w.ownsRow base e sz (.slice (some ⟨g,0,none⟩) n n) n xs):w.heap[g]?=some (.cells xs.toArray e (0,0)):=by
 rcases h.2 with ⟨h,_⟩|⟨g',cap,cr,h,_,hrow,_,_,hsz,htk⟩
 ·cases h
 ·cases h
  rw[hrow]
  congr 2
  apply Array.ext'
  rw[zr5 (by simp[hsz])] at htk;rw[htk]
theorem zgP{e:TypeId}(h:w.heap[g]?=some (.cells xs.toArray e (0,0)))(hb:base<=g)(hl:xs.length=n*sz)(hm:n<=maxLen):w.ownsRow base e sz (.slice (some ⟨g,0,none⟩) n n) n xs:=
 ⟨hl,.inr ⟨g,n,xs.toArray,rfl,hb,h,zsa _,hm,by simp[hl],by simp[<-hl]⟩⟩
theorem zeY{P:Program}(w:World)(dT sT ty elem:TypeId)(g o dLen dCap:Nat)(a:Addr)(sLen sCap:Nat)(cur:Array Value)(t:TypeId)(cs:List Value)(c:Nat)
  (hu:P.underlying dT=some (.slice elem)) (hs:(P.info? elem).map (·.size)=some 2)
  (hg:w.heap[g]?=some (.cells cur t (0,0))) (hc:c=Nat.min sLen dLen) (hn:cs.length=c*2)
  (hsrc:∀j v,cs[j]?=some v->w.cell? (a.add j)=some v) (hfit:o+cs.length<=cur.size) (h1:∀v∈cs,v.oneCell'=true):
  (Builtin.copy_ #[dT,sT] ty #[.slice (some ⟨g,o,none⟩) dLen dCap,.slice (some a) sLen sCap]).run P w =
   .ok (goInt c) (w.setRow g (cur.toList.take o++cs++cur.toList.drop (o+cs.length)).toArray):=by
 have hl:=run_loadCells_list (P:=P) w a cs hsrc;have hst:=run_storeCells_at P g o t cs 0 cur w hg (by simpa using hfit) h1;cases hq:P.info? elem with
 |none=>simp[hq] at hs
 |some i=>
  have hi:i.size=2:=by simpa [hq] using hs
  rw[hn] at hl;simp[Builtin.copy_,run_underlying hu,Builtin.lenOf,Builtin.firstCells,sizeOf,typeInfo,hq,hi,<-hc,hl,hst]
end
attribute [local go_sem ↓] Go.wp_at_zero Go.wp_at_succ
theorem Tryz.infoLink:(Tryz.prog.info? 155).map (fun i=>(i.zero,i.size,i.bytes))=some (some (.agg #[.pointer none,.bool false]),2,16):=by kernel_rfl
theorem Tryz.sizeLink:(Tryz.prog.info? 155).map (·.size)=some 2:=by kernel_rfl
def zmr(ats:Array TypeId)(ty:TypeId)(args:Array Value):Sem Value:=Builtin.copy_ ats ty args
theorem zhV(ty:TypeId)(args:Array Value):Builtin.copy_ #[156,156] ty args=zmr #[156,156] ty args:=rfl
attribute [local go_sem ↓] zhV
theorem zeJ(x y:Value)(hx:x.oneCell'=true)(hy:y.oneCell'=true){n j c g dc sl sc:Nat}{a:Addr}{W:World}(hR:W.heap[g]?=some (.cells (rp2 x y (.pointer none) (.bool false) n j).toArray 155 (0,0)))(hj:j<=n)(hc:c=min sl (n-j))(hs:∀i,i<c*2->W.cell? (a.add i)=some (if i%2=0 then x else y))(ty:TypeId)(dl:Nat)(hdl:dl=n-j)(o:Nat)(ho:o=j*2):
  ∃W',(zmr #[156,156] ty #[.slice (some ⟨g,o,none⟩) dl dc,.slice (some a) sl sc]).run Tryz.prog W=.ok (.int .i64 (c:Int)) W'/\W'.heap[g]?=some (.cells (rp2 x y (.pointer none) (.bool false) n (j+c)).toArray 155 (0,0))/\W.grownBy W' (some g):=by
 subst ho;have h:=zeY (P:=Tryz.prog) W 156 156 ty 155 g (j*2) dl dc a sl sc (rp2 x y (.pointer none) (.bool false) n j).toArray 155 (pr2 x y c) c Tryz.underlying156 Tryz.sizeLink hR (by rw[hdl];exact hc) (zcQ x y c)
  (fun i v hv=>by
   by_cases hi:i<c*2
   ·rw[zjS x y hi] at hv;cases hv;exact hs i hi
   ·rw[zrE (by rw[zcQ];omega)] at hv;cases hv) (by rw[zcQ,zr4,zf3];omega) (by
   intro v hv;obtain⟨k,-,rfl⟩:=zrV.1 hv;split
   ·exact hx
   ·exact hy)
 refine⟨_,h,?_,⟨rfl,rfl,rfl,by simp[World.setRow],fun k _ hk=>setRow_other W g k _ (fun e=>hk (by rw[e]))⟩⟩;rw[setRow_heap W g _ _ _ _ hR];have e:=zgQ x y (.pointer none) (.bool false) (n:=n) (j:=j) (c:=c) (by omega);unfold splice at e;rw[zrl,e]
theorem zht(x y:Value)(ox:x.oneCell'=true)(oy:y.oneCell'=true)(g0 n:Nat)(w:World)(hx:w.cell? ⟨g0,0,none⟩=some x)(hy:w.cell? ⟨g0,1,none⟩=some y)(hn:n<=4000):
  Calls Tryz.prog 84 #[.slice (some ⟨g0,0,none⟩) 1 1,.int .i64 (n:Int)] w fun e w'=>e=.returned (.slice (some ⟨w.heap.size,0,none⟩) n n)/\w'.ownsRow w.heap.size 155 2 (.slice (some ⟨w.heap.size,0,none⟩) n n) n (pr2 x y n)/\Below w.heap.size w w':=by
 obtain⟨i0,hi,hz0,hz1,hz2⟩:=info_parts Tryz.infoLink;have hm:=znd n w hn;have hg0:g0<w.heap.size:=block_lt_of_cell hx;have hi2:(n:Int)<=4000:=by omega
 obtain⟨c0,hc0⟩:∃c,c=min 1 n:=⟨_,rfl⟩;have hsrc:∀W,Below w.heap.size w W->∀i,i<c0*2->W.cell? ((⟨g0,0,none⟩:Addr).add i)=some (if i%2=0 then x else y):=fun W hb i hi=>by
  obtain rfl|rfl:i=0\/i=1:=by omega
  ·exact(hb.cell (p:=⟨g0,0,none⟩) hg0).trans hx
  ·exact(hb.cell (p:=⟨g0,1,none⟩) hg0).trans hy
 go_enter Tryz.func84,Tryz.ntmps84
 go_wp2_with (first|(go_at_call 93;refine hm.mono ?_;rintro e w' ⟨rfl,hw'⟩;subst w')|(refine wpList_make_full _ rfl _ _ 156 rfl w.heap.size 155 i0 _ 2 Tryz.underlying156 hi hz0 hz1 _ _ _ _ n rfl rfl rfl rfl (by rw[hz2];omega) (by unfold maxLen;omega) (zsa _) ?_;intro w1 hown1 hgrow1;have hb1:Below w.heap.size w w1:=(Below.refl _ _).grown hgrow1 (zsa _) (by intro k h;cases h);have HR:Hid (w1.heap[w.heap.size]?=some (.cells (rp2 x y (.pointer none) (.bool false) n 0).toArray 155 (0,0))):=(by have h:=zbC hown1;rw[show (Value.agg #[.pointer none,.bool false]).cells=#[.pointer none,.bool false] from rfl,zkC x y] at h;exact h);clear hown1 hgrow1;obtain⟨w2,hcp,hR2,hg2⟩:=zeJ x y ox oy (sc:=1) (a:=⟨g0,0,none⟩) (dc:=n) HR.out (zsj _) (c:=c0) (sl:=1) (by omega) (hsrc _ hb1) 3 n rfl 0 rfl;have HR2:Hid (w2.heap[w.heap.size]?=some (.cells (rp2 x y (.pointer none) (.bool false) n c0).toArray 155 (0,0))):=(by rw[zsi] at hR2;exact hR2);have hB2:Hid (Below w.heap.size w w2):=hb1.grown hg2 hb1.size (fun q e=>by cases e;exact zsa _);clear hR2 hg2))
 clear hx hy hcp hb1 hm HR hsrc
 go_loopw [8] (fun i wr=>∃(j:Nat),(1<=j\/n=0)/\j<=n/\i=.int .i64 j/\Hid (wr.heap[w.heap.size]?=some (.cells (rp2 x y (.pointer none) (.bool false) n j).toArray 155 (0,0)))/\Hid (Below w.heap.size w wr))
  (fun i _=>n-(intOf i).toNat)
 case atStart=>exact⟨c0,by omega,by omega,by rw[hc0],HR2,hB2⟩
 case round=>
  obtain⟨j,hj1,hj,rfl,HR,HB⟩:=hrel
  by_cases hj2:j<n
  ·have hj1':1<=j:=by omega
   have hi3:(j:Int)<(n:Int):=by omega
   have hi4:¬n=j:=by omega
   obtain⟨c,hc⟩:∃c,c=min j (n-j):=⟨_,rfl⟩;obtain⟨w5,hcp,hR5,hg5⟩:=zeJ x y ox oy (W:=wr.drew) (sc:=n) (a:=⟨w.heap.size,0,none⟩) (dc:=n-j) HR.out hj (c:=c) (sl:=j) hc (fun i hi=>by
    have e:(⟨w.heap.size,0,none⟩:Addr).add i=⟨w.heap.size,i,none⟩:=by unfold Addr.add;split<;>simp_all
    have hr:wr.drew.heap[w.heap.size]?=some (.cells (rp2 x y (.pointer none) (.bool false) n j).toArray 155 (0,0)):=HR.out;have e2:i<j*2:=by omega
    rw[e,zsm _ _ _ _ _ _ hr,List.getElem?_toArray,zdf _ _ _ _ (by omega),zst e2]) 3 (n-j) rfl (j*2) rfl
   have HR5:Hid _:=hR5;have HB5:Hid (Below w.heap.size w w5):=by
    have hB1:Below w.heap.size w wr.drew:=HB.out.trans ⟨rfl,rfl,rfl,zsa _,fun _ _=>rfl⟩;exact hB1.grown hg5 hB1.size (fun q e=>by cases e;exact zsa _)
   have hc1:1<=c:=by omega
   have hc2:j+c<=n:=by omega
   have hc3:(j:Int)+(c:Int)<=4000:=by omega
   clear hR5 hg5 hc;go_wp2
   go_big_region
   go_wp2
   go_roundw
   case rel=>exact⟨j+c,by omega,hc2,by simp,HR5,HB5⟩
   case measure=>simp[intOf];omega
  ·have hjj:j=n:=by omega
   subst hjj;go_wp2;refine zsl (v:=.slice (some ⟨w.heap.size,0,none⟩) j j) (by simp[results,Tryz.results84,go_sem]) rfl ⟨rfl,?_,HB.out⟩;have:=HR.out;rw[zkQ] at this;exact zgP this (zsa _) (zcQ _ _ _) (by unfold maxLen;omega)
end Go.Proofs.YthdljcdbfmhleaaGreatDoor
