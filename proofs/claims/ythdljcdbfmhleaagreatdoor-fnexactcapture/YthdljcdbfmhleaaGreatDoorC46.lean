import Derived.Test.YthdljcdbfmhleaaGreatDoorC45
namespace Go.Proofs.YthdljcdbfmhleaaGreatDoor
set_option maxHeartbeats 4000000
set_option maxRecDepth 100000
section
open Go.RowKit
theorem zfO:∀(l:List Int),l.Nodup->∀x,l.count x<=1
 |[],_,x=>by simp
 |a::l,h,x=>by
  obtain⟨h1,h2⟩:=List.nodup_cons.1 h;have ih:=zfO l h2 x;rw[List.count_cons]
  by_cases e:a=x
  ·subst e;rw[List.count_eq_zero_of_not_mem h1];simp
  ·have:(a==x)=false:=zsk.2 e;rw[this];simp;exact ih
theorem zfn:∀(l:List Int),(∀x,x∈l->l.count x<=1)->l.Nodup
 |[],_=>List.nodup_nil
 |a::l,h=>by
  refine List.nodup_cons.2 ⟨fun hm=>?_,zfn l fun x hx=>?_⟩
  ·have h1:=h a (zrU ..);rw[List.count_cons_self] at h1;have:=List.count_pos_iff.2 hm;omega
  ·have h1:=h x (zrT _ hx);have:=List.count_le_count_cons (a:=x) (b:=a) (l:=l);omega
theorem zez(G:Int):∀(gs done:List Int),zbN G done gs=true↔(∀x,x∈gs->1<=x/\x<=G)/\(∀x,x∈gs->x∉done)/\gs.Nodup/\((done.length:Int)+gs.length=G)
 |[],done=>by simp[zbN]
 |g::gs,done=>by
  unfold zbN
  by_cases hc:g<1\/G<g\/g∈done
  ·rw[zst hc];constructor
   ·intro h;cases h
   ·rintro ⟨h1,h2,_,_⟩;have a1:=h1 g (zrU ..);have a2:=h2 g (zrU ..);rcases hc with h|h|h
    ·omega
    ·omega
    ·exact absurd h a2
  ·rw[zss hc,zez G gs (g::done)];constructor
   ·rintro ⟨h1,h2,h3,h4⟩;refine⟨fun x hx=>?_,fun x hx=>?_,?_,?_⟩
    ·rcases zrS.1 hx with rfl|hx
     ·omega
     ·exact h1 x hx
    ·rcases zrS.1 hx with rfl|hx
     ·exact fun h=>hc (.inr (.inr h))
     ·exact fun h=>h2 x hx (zrT _ h)
    ·exact List.nodup_cons.2 ⟨fun hm=>h2 g hm (zrU ..),h3⟩
    ·simp at h4 ⊢;omega
   ·rintro ⟨h1,h2,h3,h4⟩;obtain⟨h5,h6⟩:=List.nodup_cons.1 h3;refine⟨fun x hx=>h1 x (zrT _ hx),fun x hx hm=>?_,h6,?_⟩
    ·rcases zrS.1 hm with rfl|hm
     ·exact h5 hx
     ·exact h2 x (zrT _ hx) hm
    ·simp at h4 ⊢;omega
def cntO(gs:List Int):Nat->Nat
 |0=>0
 |n+1=>cntO gs n+gs.count ((n:Int)+1)
def inR(n:Nat)(x:Int):Bool:=decide (1<=x/\x<=n)
theorem zfr(n:Nat):∀gs:List Int,(gs.filter (inR (n+1))).length=(gs.filter (inR n)).length+gs.count ((n:Int)+1)
 |[]=>rfl
 |g::gs=>by
  have ih:=zfr n gs;rw[List.filter_cons,List.filter_cons,List.count_cons]
  by_cases e:g=(n:Int)+1
  ·have h1:inR (n+1) g=true:=by simp[inR];omega
   have h2:inR n g=false:=by simp[inR];omega
   have h3:(g==(n:Int)+1)=true:=beq_iff_eq.2 e;rw[h1,h2,h3];simp;omega
  ·have h3:(g==(n:Int)+1)=false:=zsk.2 e;have h1:inR (n+1) g=inR n g:=by simp only[inR];rw[decide_eq_decide];omega
   rw[h1,h3]
   by_cases h2:inR n g=true
   ·rw[zst h2,zst h2];simp;omega
   ·rw[zss h2,zss h2];simp;omega
theorem zml(gs:List Int):∀n,cntO gs n=(gs.filter (inR n)).length
 |0=>by
  have:gs.filter (inR 0)=[]:=List.filter_eq_nil_iff.2 fun x _=>by simp[inR];omega
  rw[this];rfl
 |n+1=>by rw[cntO,zml gs n,zfr]
theorem zpA(gs:List Int)(h:∀x,gs.count x<=1):∀n,cntO gs n<=n
 |0=>zsa _
 |n+1=>by have:=zpA gs h n;have:=h ((n:Int)+1);rw[cntO];omega
theorem zmk(gs:List Int)(h:∀x,gs.count x<=1):∀n,cntO gs n=n->∀i,i<n->gs.count ((i:Int)+1)=1
 |0,_,i,hi=>absurd hi (zsg _)
 |n+1,he,i,hi=>by
  have h1:=zpA gs h n;have h2:=h ((n:Int)+1);rw[cntO] at he
  by_cases e:i=n
  ·subst e;omega
  ·exact zmk gs h n (by omega) i (by omega)
theorem zkj(gs:List Int):∀n:Nat,(∀i:Nat,i<n->gs.count ((i:Int)+1)=1)->cntO gs n=n
 |0,_=>rfl
 |n+1,h=>by rw[cntO,zkj gs n fun i hi=>h i (by omega),h n (by omega)]
theorem zfx(G:Int)(hG:0<=G)(gs:List Int):zbN G [] gs=(((gs.length:Int)==G)&&zgr G gs):=by
 obtain⟨n,rfl⟩:=Int.eq_ofNat_of_zero_le hG;have key:zbN (n:Int) [] gs=true↔(gs.length=n/\∀i,i<n->gs.count ((i:Int)+1)=1):=by
  rw[zez];constructor
  ·rintro ⟨h1,_,h3,h4⟩;have hl:gs.length=n:=by simp at h4;omega
   refine⟨hl,?_⟩;have hc:=zfO gs h3;refine zmk gs hc n ?_;rw[zml,List.filter_eq_self.2 fun x hx=>by have:=h1 x hx;simp[inR];omega];exact hl
  ·rintro ⟨hl,h1⟩;have he:=zkj gs n h1;rw[zml] at he;have hf:gs.filter (inR n)=gs:=List.Sublist.eq_of_length_le List.filter_sublist (by omega);have hr:∀x,x∈gs->1<=x/\x<=(n:Int):=by
    intro x hx;have:=List.filter_eq_self.1 hf x hx
    simpa [inR] using this
   refine⟨hr,fun _ _ h=>by simp at h,zfn gs fun x hx=>?_,by simp;omega⟩;have hx1:=hr x hx;have:=h1 (x-1).toNat (by omega);rw[show (((x-1).toNat:Nat):Int)+1=x by omega] at this;omega
 have key2:(((gs.length:Int)==(n:Int))&&zgr (n:Int) gs)=true↔(gs.length=n/\∀i,i<n->gs.count ((i:Int)+1)=1):=by
  rw[zrf,beq_iff_eq];unfold zgr;rw[zrj];constructor
  ·rintro ⟨h1,h2⟩;exact⟨by omega,fun i hi=>by simpa using h2 i (by simpa using hi)⟩
  ·rintro ⟨h1,h2⟩;exact⟨by omega,fun i hi=>by simpa using h2 i (by simpa using hi)⟩
 cases ha:zbN (n:Int) [] gs<;>cases hb:(((gs.length:Int)==(n:Int))&&zgr (n:Int) gs)
 ·rfl
 ·rw[key.2 (key2.1 hb)] at ha;cases ha
 ·rw[key2.2 (key.1 ha)] at hb;cases hb
 ·rfl
theorem zgH:∀bs:List zaf,allB bs=true->zaX bs=some (bs.map zhJ)
 |[],_=>rfl
 |b::bs,h=>by
  unfold allB at h;rw[List.all_cons,zrf] at h;obtain⟨h1,h2⟩:=h;rw[zrf] at h1;have ih:=zgH bs h2;have hl:=(zhj b.nodes h1.1 (zfc h1.1) h1.2).2;unfold zaX;rw[hl,ih]
  rfl
theorem zgG:∀bs:List zaf,allB bs=false->zaX bs=none
 |[],h=>by simp[allB] at h
 |b::bs,h=>by
  unfold zaX
  by_cases hb:(zbW b.nodes&&b.nodes.all zav)=true
  ·have h2:allB bs=false:=by
    unfold allB at h ⊢;rw[List.all_cons,hb,zrh] at h;exact h
   rw[zgG bs h2];cases zd5 b.nodes<;>rfl
  ·rw[zoN b.nodes (by
    cases hk:zbW b.nodes
    ·exact .inl rfl
    ·right
     cases ha:b.nodes.all zav
     ·rfl
     ·rw[hk,ha] at hb;exact absurd rfl hb)]
theorem zko:∀(st:List Int) (s:Int),0<=s->s<=2001->(∀x,x∈st->0<=x)->st.foldl (fun s a=>capW (s+a)) s=capW (s+st.sum)
 |[],s,h0,h1,_=>by simp[zdJ h1]
 |a::st,s,h0,h1,h=>by
  have ha:=h a (zrU ..);have hc:=zfl (show 0<=s+a by omega);rw[List.foldl_cons,zko st (capW (s+a)) hc.1 hc.2 fun x hx=>h x (zrT _ hx),List.sum_cons];have hs:0<=st.sum:=by
   have:∀l:List Int,(∀x,x∈l->0<=x)->0<=l.sum:=by
    intro l
    induction l with
    |nil=>intro _;simp
    |cons b l ih=>intro hl;have:=ih fun x hx=>hl x (zrT _ hx);have:=hl b (zrU ..);rw[List.sum_cons];omega
   exact this st fun x hx=>h x (zrT _ hx)
  unfold capW;split<;>split<;>split<;>omega
theorem ziC:∀bs:List zaf,zdv bs=(bs.map zhJ).sum
 |[]=>rfl
 |b::bs=>by rw[zdv,ziC bs];simp
theorem ziP(bs:List zaf)(h:allB bs=true):decide (zbd (bs.map zhJ)<=2000)=decide (zdv bs<=2000):=by
 unfold zbd;rw[zko _ 0 (by omega) (by omega) (by
  intro x hx;obtain⟨b,hb,rfl⟩:=zrV.1 hx;have:=zrj.1 h b hb;rw[zrf] at this;have:=zhK this.1 (zfc this.1) this.2;omega),<-ziC,Int.zero_add,decide_eq_decide]
 unfold capW;split<;>omega
theorem zf4(G:Int)(bs:List zaf):zc5 G bs=zb5 G bs:=by
 unfold zc5 zb5
 by_cases hG:0<=G/\G<=500
 ·rw[zfx G hG.1];cases ha:allB bs
  ·rw[zgG bs ha];simp
  ·rw[zgH bs ha];simp only[ziP bs ha,Bool.and_true];cases decide (1<=bs.length/\bs.length<=2000)<;>cases decide (0<=G/\G<=500)<;>cases decide (zaB bs<=5000)<;>cases ((zaT bs).length:Int)==G<;>simp
 ·have:decide (0<=G/\G<=500)=false:=by simpa using hG
  rw[this];simp
end
section
open Go.RowKit
attribute [local go_sem ↓] Go.wp_at_zero Go.wp_at_succ
def gmem:Pt->Int->Prop
 |.set _,_=>False
 |.seq p q,x=>gmem p x\/gmem q x
 |.alt p q,x=>gmem p x\/gmem q x
 |.rep b _ _,x=>gmem b x
 |.grp b g,x=>x=g\/gmem b x
theorem zdc{u:Word}:∀(p:Pt) (i j:Nat) (l:List Up),Pl u p i j l->∀x∈l,gmem p x.1
 |.set _,_,_,l,h,x,hx=>by have h:l=[]:=h;subst h;cases hx
 |.grp b g,i,j,l,⟨m,e,h⟩,x,hx=>by
  subst e;rcases zrS.1 hx with rfl|hx
  ·exact .inl rfl
  ·exact .inr (zdc b i j m h x hx)
 |.seq p q,i,j,l,⟨k,l1,l2,_,h1,h2,e⟩,x,hx=>by
  subst e;rcases zrR.1 hx with hx|hx
  ·exact .inl (zdc p i k l1 h1 x hx)
  ·exact .inr (zdc q k j l2 h2 x hx)
 |.alt p q,i,j,l,h,x,hx=>by
  rcases h with ⟨_,h⟩|⟨_,h⟩
  ·exact .inl (zdc p i j l h x hx)
  ·exact .inr (zdc q i j l h x hx)
 |.rep b mn mx,i,j,l,h,x,hx=>by
  replace h:CpR (Lg u b) (Pl u b) (fun mn mx i j=>Lg u (.rep b mn mx) i j) mn.toNat mx i j l:=h;show gmem b x.1;have ih:=zdc (u:=u) b;generalize mn.toNat=n at h
  induction h with
  |done=>cases hx
  |void=>cases hx
  |out=>cases hx
  |must _ _ i j k l1 l2 _ h1 _ ihc=>
   rcases zrR.1 hx with hx|hx
   ·exact ih i k l1 h1 x hx
   ·exact ihc hx
  |may _ i j k l1 l2 _ _ h1 _ ihc=>
   rcases zrR.1 hx with hx|hx
   ·exact ih i k l1 h1 x hx
   ·exact ihc hx
  |more i j k l1 l2 _ _ h1 _ ihc=>
   rcases zrR.1 hx with hx|hx
   ·exact ih i k l1 h1 x hx
   ·exact ihc hx
theorem zmS:∀(ns:List zak) (n:Nat),n<ns.length->(ns.getD n .zero).kind=5->(ns.getD n .zero).group∈grp ns
 |a::ns,0,_,h=>by
  have h:a.kind=5:=h;show a.group∈grp (a::ns);rw[grp,zst h];simp
 |a::ns,n+1,hn,h=>by
  have:=zmS ns n (by simpa using hn) h;show (ns.getD n .zero).group∈grp (a::ns);rw[grp];split
  ·exact zrT _ this
  ·exact this
theorem zet:∀(bs:List zaf) (k:Nat),k<bs.length->∀x∈grp (bs.getD k .zero).nodes,x∈zaT bs
 |b::bs,0,_,x,h=>zrR.2 (.inl h)
 |b::bs,k+1,hk,x,h=>zrR.2 (.inr (zet bs k (by simpa using hk) x h))
theorem zf5{G:Int}{bs:List zaf}(h:zb5 G bs=true):∀x∈zaT bs,1<=x/\x<=G:=by
 unfold zb5 at h;simp only[zrf,zsn] at h;obtain⟨⟨⟨⟨⟨⟨_,h2⟩,_⟩,_⟩,h5⟩,h6⟩,_⟩:=h;have:=zfx G h2.1 (zaT bs);rw[h5,h6] at this;exact((zez G (zaT bs) []).1 this).1
theorem znv(ns:List zak)(ha:∀i,i<ns.length->zaA (zap ns i)<=(stk ns i).length)(hb:ns.all zav=true):∀n,n<ns.length->PlcC ns n:=by
 intro n
 induction n using Nat.strongRecOn with
 |ind n ih=>
  intro hn;have hnode:zav (ns.getD n .zero)=true:=zrj.1 hb (ns.getD n .zero) (by
   rw[zrw,zrD hn];exact zrJ _)
  have har:=ha n hn;have hkd:zap ns n=(ns.getD n .zero).kind:=rfl
  by_cases h1:zap ns n=1
  ·refine zo5 ns n hn h1 ?_;unfold tOf zbq;rw[zst (by rw[<-hkd];exact h1)]
  by_cases h2:zap ns n=2
  ·obtain⟨x,y,hL,hR,hx,hy,hT⟩:=zcL (ns:=ns) (k:=n) (by rw[h2];rfl) (by rw[h2] at har;exact har);refine zo4 ns n x y hn h2 ?_ hL hR (zfo ns ha hb x (by omega)) (zfo ns ha hb y (by omega)) (ih x hx (by omega)) (ih y hy (by omega));rw[hT];unfold zbq;rw[zss (by rw[<-hkd];exact h1),zst (by rw[<-hkd];exact h2)]
   rfl
  by_cases h3:zap ns n=3
  ·obtain⟨x,y,hL,hR,hx,hy,hT⟩:=zcL (ns:=ns) (k:=n) (by rw[h3];rfl) (by rw[h3] at har;exact har);refine zo1 ns n x y hn h3 ?_ hL hR (zfo ns ha hb x (by omega)) (ih x hx (by omega)) (ih y hy (by omega));rw[hT];unfold zbq;rw[zss (by rw[<-hkd];exact h1),zss (by rw[<-hkd];exact h2),zst (by rw[<-hkd];exact h3)]
   rfl
  by_cases h4:zap ns n=4
  ·obtain⟨x,hL,hx,hT⟩:=zcK (ns:=ns) (k:=n) (by rw[h4];rfl) (by rw[h4] at har;exact har);have hbd:zaD (ns.getD n .zero).min (ns.getD n .zero).max=true:=by
    unfold zav at hnode;rw[zss (by rw[<-hkd];exact h1),zss (by rw[<-hkd];exact fun h=>h.elim h2 h3),zst (by rw[<-hkd];exact h4)] at hnode;simp only[zrf] at hnode;exact hnode.1.2
   simp[zaD] at hbd;refine zo3 ns n x (ns.getD n .zero).min.toNat hn h4 ?_ hL (zfo ns ha hb x (by omega)) (ih x hx (by omega)) (by simp only[zrw];omega) (by simp only[zrw];omega) (by simp only[zrw];omega);rw[hT];unfold zbq;rw[zss (by rw[<-hkd];exact h1),zss (by rw[<-hkd];exact h2),zss (by rw[<-hkd];exact h3),zst (by rw[<-hkd];exact h4)];have:(((ns.getD n .zero).min.toNat:Nat):Int)=(ns.getD n .zero).min:=by simp only[zrw];omega
   rw[this]
   rfl
  have h5:zap ns n=5:=by
   by_cases h5:zap ns n=5
   ·exact h5
   ·exfalso
    unfold zav at hnode;rw[zss (by rw[<-hkd];exact h1),zss (by rw[<-hkd];exact fun h=>h.elim h2 h3),zss (by rw[<-hkd];exact h4),zss (by rw[<-hkd];exact h5)] at hnode;cases hnode
  obtain⟨x,hL,hx,hT⟩:=zcK (ns:=ns) (k:=n) (by rw[h5];rfl) (by rw[h5] at har;exact har);refine zo2 ns n x hn h5 ?_ hL (ih x hx (by omega));rw[hT];unfold zbq;rw[zss (by rw[<-hkd];exact h1),zss (by rw[<-hkd];exact h2),zss (by rw[<-hkd];exact h3),zss (by rw[<-hkd];exact h4)]
  rfl
theorem zkb(ns:List zak)(ha:∀i,i<ns.length->zaA (zap ns i)<=(stk ns i).length)(hb:ns.all zav=true):∀n,n<ns.length->OkP (tOf ns n)/\∀x,gmem (tOf ns n) x->x∈grp ns:=by
 intro n
 induction n using Nat.strongRecOn with
 |ind n ih=>
  intro hn;have hnode:zav (ns.getD n .zero)=true:=zrj.1 hb (ns.getD n .zero) (by
   rw[zrw,zrD hn];exact zrJ _)
  have har:=ha n hn;have hkd:zap ns n=(ns.getD n .zero).kind:=rfl
  by_cases h1:zap ns n=1
  ·unfold tOf zbq;rw[zst (by rw[<-hkd];exact h1)];exact⟨trivial,fun x h=>h.elim⟩
  by_cases h2:zap ns n=2
  ·obtain⟨x,y,hL,hR,hx,hy,hT⟩:=zcL (ns:=ns) (k:=n) (by rw[h2];rfl) (by rw[h2] at har;exact har);have i1:=ih x hx (by omega);have i2:=ih y hy (by omega);rw[hT];unfold zbq;rw[zss (by rw[<-hkd];exact h1),zst (by rw[<-hkd];exact h2)];exact⟨⟨i1.1,i2.1⟩,fun z h=>h.elim (i1.2 z) (i2.2 z)⟩
  by_cases h3:zap ns n=3
  ·obtain⟨x,y,hL,hR,hx,hy,hT⟩:=zcL (ns:=ns) (k:=n) (by rw[h3];rfl) (by rw[h3] at har;exact har);have i1:=ih x hx (by omega);have i2:=ih y hy (by omega);rw[hT];unfold zbq;rw[zss (by rw[<-hkd];exact h1),zss (by rw[<-hkd];exact h2),zst (by rw[<-hkd];exact h3)];exact⟨⟨i1.1,i2.1⟩,fun z h=>h.elim (i1.2 z) (i2.2 z)⟩
  by_cases h4:zap ns n=4
  ·obtain⟨x,hL,hx,hT⟩:=zcK (ns:=ns) (k:=n) (by rw[h4];rfl) (by rw[h4] at har;exact har);have hbd:zaD (ns.getD n .zero).min (ns.getD n .zero).max=true:=by
    unfold zav at hnode;rw[zss (by rw[<-hkd];exact h1),zss (by rw[<-hkd];exact fun h=>h.elim h2 h3),zst (by rw[<-hkd];exact h4)] at hnode;simp only[zrf] at hnode;exact hnode.1.2
   simp[zaD] at hbd;have i1:=ih x hx (by omega);rw[hT];unfold zbq;rw[zss (by rw[<-hkd];exact h1),zss (by rw[<-hkd];exact h2),zss (by rw[<-hkd];exact h3),zst (by rw[<-hkd];exact h4)];refine⟨⟨i1.1,?_,?_⟩,fun z h=>i1.2 z h⟩<;>(simp only[zrw];omega)
  have h5:zap ns n=5:=by
   by_cases h5:zap ns n=5
   ·exact h5
   ·exfalso
    unfold zav at hnode;rw[zss (by rw[<-hkd];exact h1),zss (by rw[<-hkd];exact fun h=>h.elim h2 h3),zss (by rw[<-hkd];exact h4),zss (by rw[<-hkd];exact h5)] at hnode;cases hnode
  obtain⟨x,hL,hx,hT⟩:=zcK (ns:=ns) (k:=n) (by rw[h5];rfl) (by rw[h5] at har;exact har);have i1:=ih x hx (by omega);rw[hT];unfold zbq;rw[zss (by rw[<-hkd];exact h1),zss (by rw[<-hkd];exact h2),zss (by rw[<-hkd];exact h3),zss (by rw[<-hkd];exact h4)];refine⟨i1.1,fun z h=>?_⟩;rcases h with rfl|h
  ·exact zmS ns n hn (by rw[<-hkd];exact h5)
  ·exact i1.2 z h
end
section
open Go.RowKit
attribute [local go_sem ↓] Go.wp_at_zero Go.wp_at_succ
def zbZ(f:Int×Int)(n:Nat):List (Int×Int):=f::List.replicate n (-1,-1)
theorem zdb(f:Int×Int)(n:Nat):(zbZ f n).length=n+1:=by simp[zbZ]
theorem znB(sp:List (Int×Int))(a b:Int):pv (sp++[(a,b)])=pv sp++[.int .i64 a,.int .i64 b]:=by
 unfold pv;rw[zrK,show [(a,b)].length=1 from rfl,zmI]
 congr 1
 ·exact zln _ fun k hk=>by
   unfold pvF;rw[zrw,zrw,zry hk]
 ·simp[pvF,List.getD_eq_getElem?_getD]
theorem zlN(f:Int×Int)(n:Nat):zbZ f (n+1)=zbZ f n++[(-1,-1)]:=by simp[zbZ,List.replicate_succ']
theorem zqT(w:World)(B:Nat)(a b:Int)(hB:B<=w.heap.size)(H:Nat)(hH:w.heap.size=H):(w.alloc (.cells #[.int .i64 a,.int .i64 b] 50)).ownsRow B 50 2 (.slice (some ⟨H,0,none⟩) 1 1) 1 (pv (zbZ (a,b) 0)):=by
 subst hH;refine⟨by simp[zea,zbZ],.inr ⟨w.heap.size,1,#[.int .i64 a,.int .i64 b],rfl,hB,zsp _ _,zsa _,by unfold maxLen;omega,rfl,by simp[pv,pvF,zbZ]⟩⟩
theorem zoW(v:Value)(G:Nat)(a b:Int)(w:World)(hG:G<=500)(B:Nat)(hB:B<=w.heap.size):
  Calls Tryz.prog 18 #[.agg #[v,.int .i64 G],.agg #[.int .i64 a,.int .i64 b]] w fun e w'=>∃g cap,e=.returned (.slice (some ⟨g,0,none⟩) (G+1) cap)/\w'.ownsRow B 50 2 (.slice (some ⟨g,0,none⟩) (G+1) cap) (G+1) (pv (zbZ (a,b) G))/\Below w.heap.size w w':=by
 obtain⟨i0,hi,hz0,hz1,hz2⟩:=info_parts Tryz.infoPair;obtain⟨W0,hW0⟩:∃W0,((w.alloc (.cells #[v,.int .i64 G] 30)).alloc (.cells #[.int .i64 a,.int .i64 b] 50)).alloc (.cells #[.int .i64 a,.int .i64 b] 50)=W0:=⟨_,rfl⟩;have hb0:Below w.heap.size w W0:=by rw[<-hW0];exact(((Below.refl _ _).alloc (zsa _) _).alloc (by simp) _).alloc (by simp;omega) _
 have k0:W0.heap[w.heap.size]?=some (.cells #[v,.int .i64 G] 30 (0,0)):=by rw[<-hW0];exact zah (zah (zsp _ _))
 have own0:W0.ownsRow B 50 2 (.slice (some ⟨w.heap.size+1+1,0,none⟩) 1 1) 1 (pv (zbZ (a,b) 0)):=by rw[<-hW0];exact zqT _ _ _ _ (by simp;omega) _ (by simp)
 go_enter Tryz.func18,Tryz.ntmps18
 go_wp2;clear hW0
 go_loopw [5,6] (fun sv i wr=>∃k g cap:Nat,w.heap.size<=g/\k<=G/\sv=.slice (some ⟨g,0,none⟩) (k+1) cap/\i=.int .i64 ((k+1:Nat):Int)/\Below w.heap.size w wr/\wr.heap[w.heap.size]?=some (.cells #[v,.int .i64 G] 30 (0,0))/\wr.ownsRow B 50 2 (.slice (some ⟨g,0,none⟩) (k+1) cap) (k+1) (pv (zbZ (a,b) k)))
  (fun _ i _=>G+1-(intOf i).toNat)
 case atStart=>exact⟨0,_,1,by omega,zsj _,rfl,rfl,hb0,k0,own0⟩
 case round=>
  clear own0 k0 hb0;obtain⟨k,g,cap,hgB,hk,rfl,rfl,hb,kr,own⟩:=hrel;have c1:wr.cell? ⟨w.heap.size,1,none⟩=some (.int .i64 G):=(zsm _ _ _ _ _ _ kr:wr.cell? ⟨w.heap.size,1,none⟩=_);have hlw:w.heap.size<wr.heap.size:=zbQ kr;have hgw:g≠w.heap.size:=fun e=>by
   rcases own.2 with ⟨h,_⟩|⟨g',c',cur,hv,_,hh,_⟩
   ·cases h
   ·cases hv
    rw[e,kr] at hh;injection hh with hh
    injection hh with _ hh
    exact absurd hh (by decide)
  by_cases hlt:k<G
  ·have hle:((k+1:Nat):Int)<=(G:Int):=by omega
   have hd:decide (((k+1:Nat):Int)<=(G:Int))=true:=by simp;omega
   have Hkk:Hid (pv (zbZ (a,b) k)++[Value.int .i64 (-1),.int .i64 (-1)]=pv (zbZ (a,b) (k+1))):=by show _=_;rw[zlN,znB]
   obtain⟨kk,hkk⟩:∃kk,k+1=kk:=⟨_,rfl⟩;rw[hkk] at hle hd own ⊢;have Hk2:Hid (k+1=kk):=hkk;clear hkk
   go_wp2_with (refine zaS rfl (.tmp 15) (.tmp 17) 26 rfl wr #[.int .i64 (-1),.int .i64 (-1)] 50 rfl wr.heap.size rfl B i0 _ 2 16 Tryz.underlying26 hi hz0 hz1 hz2 rfl (by omega) _ kk _ rfl own rfl rfl (by intro u hu;simp at hu;subst hu;rfl) (by omega) (by omega) (by have:=hb.size;omega) ?_;intro g1 cap1 w1 own1 grow1 at1)
   have hb1:=hb.grown grow1 hb.size (by intro k' h;have h:some g=some k':=h;injection h with h;omega);have kr1:=(grow1.block _ hlw (by intro h;have h:some w.heap.size=some g:=h;injection h with h;omega)).trans kr;have own2:w1.ownsRow B 50 2 (.slice (some ⟨g1,0,none⟩) (kk+1) cap1) (kk+1) (pv (zbZ (a,b) (k+1))):=by rw[<-Hkk.out];exact own1
   have hg1:w.heap.size<=g1:=by
    rcases at1 with h|h
    ·have h:some g=some g1:=h;injection h with h
     omega
    ·have:=hb.size;omega
   go_roundw
   case rel=>exact⟨k+1,g1,cap1,hg1,by omega,by rw[Hk2.out],by congr 1;have:=Hk2.out;omega,hb1,kr1,by have h:=own2;rw[Hk2.out] at h ⊢;exact h⟩
   case measure=>simp[intOf];have:=Hk2.out;omega
  ·obtain rfl:k=G:=by omega
   have hd:decide (((k+1:Nat):Int)<=(k:Int))=false:=by simp;omega
   obtain⟨kk,hkk⟩:∃kk,k+1=kk:=⟨_,rfl⟩;rw[hkk] at hd own ⊢;have hd3:¬kk<=k:=by omega
   have hd4:decide (kk<=k)=false:=by simp;omega
   have Hk2:Hid (k+1=kk):=hkk;clear hkk;go_wp2;exact zsl (v:=.slice (some ⟨g,0,none⟩) kk cap) (by simp[results,Tryz.results18,go_sem]) rfl ⟨g,cap,by rw[Hk2.out],by rw[Hk2.out];exact own,hb⟩
theorem capK{w2 W W':World}{a b:Nat}{x0 x1 x2 y0 y1:Value}(ha:a<w2.heap.size)(hb:b<w2.heap.size)(h:Below w2.heap.size w2 W/\W.cell? ⟨a,0,none⟩=some x0/\W.cell? ⟨a,1,none⟩=some x1/\W.cell? ⟨a,2,none⟩=some x2/\W.cell? ⟨b,0,none⟩=some y0/\W.cell? ⟨b,1,none⟩=some y1)(k:Below W.heap.size W W'):Below w2.heap.size w2 W'/\W'.cell? ⟨a,0,none⟩=some x0/\W'.cell? ⟨a,1,none⟩=some x1/\W'.cell? ⟨a,2,none⟩=some x2/\W'.cell? ⟨b,0,none⟩=some y0/\W'.cell? ⟨b,1,none⟩=some y1:=by
 obtain⟨h0,h1,h2,h3,h4,h5⟩:=h;have hz:=h0.size;have hc:∀d o,d<w2.heap.size->W'.cell? ⟨d,o,none⟩=W.cell? ⟨d,o,none⟩:=fun d o hl=>k.cell (p:=⟨d,o,none⟩) (show d<_ by omega)
 exact⟨zaa h0 h0.size k,(hc _ _ ha).trans h1,(hc _ _ ha).trans h2,(hc _ _ ha).trans h3,(hc _ _ hb).trans h4,(hc _ _ hb).trans h5⟩
def CapR(G:Int)(bs:List zaf)(t:ByteArray)(a e:Int)(cl:Bool)(r:List (Int×Int)):Prop:=
 (¬zqA G bs t a e cl/\r=[])\/(zdS G bs t a e=true/\∃k,k<bs.length/\(∀j,j<k->¬za2 (bs.getD j .zero) t a.toNat e.toNat cl)/\za2 (bs.getD k .zero) t a.toNat e.toNat cl/\∃l,Pl t.data.toList (tOf (bs.getD k .zero).nodes ((bs.getD k .zero).nodes.length-1)) a.toNat e.toNat l/\r=upG (zbZ (a,e) G.toNat) l)
def CapA(w:World)(r:List (Int×Int))(e:Ending)(w':World):Prop:=∃v,e=.returned v/\w'.ownsRow w.heap.size 50 2 v r.length (pv r)/\Below w.heap.size w w'
theorem zgv{lo:Nat}(G:Int)(v:Value)(bs:List zaf)(t:ByteArray)(a e:Int)(cl:Bool)(r:List (Int×Int))(w:World)(hs:zaj lo w v bs)(hsm:Small bs)(hr:CapR G bs t a e cl r):
  Calls Tryz.prog 5 #[.agg #[v,.int .i64 G],.string t,.int .i64 a,.int .i64 e,.bool cl] w fun x w'=>CapA w r x w':=by
 have hs0:=hs;obtain⟨ao,cap,rfl,hm,hc⟩:=hs;have hb0:Below w.heap.size w (w.alloc (.cells #[.slice ao bs.length cap,.int .i64 G] 30)):=(Below.refl _ _).alloc (zsa _) _;have k0:(w.alloc (.cells #[.slice ao bs.length cap,.int .i64 G] 30)).heap[w.heap.size]?=some (.cells #[.slice ao bs.length cap,.int .i64 G] 30 (0,0)):=zsp _ _;have hsp:=znP G _ bs t a e _ (hs0.below hb0) hsm;have Hr:Hid (CapR G bs t a e cl r):=hr;have Hnil:Hid (∀W:World,Below w.heap.size w W->r=[]->CapA w r (.returned (.slice (some ⟨W.heap.size,0,none⟩) 0 0)) (W.alloc (.cells #[] 50))):=fun W hb e=>by
  subst e;exact⟨_,rfl,zbD W _ 2 w.heap.size W.heap.size hb.size rfl,hb.alloc hb.size _⟩
 clear hs0 hr
 go_enter Tryz.func5,Tryz.ntmps5
 go_wp2_with fail
 refine hsp.mono ?_;rintro x w1 ⟨rfl,hb1⟩;have bl:=zaa hb0 hb0.size hb1;have p0:=zat k0 hb1;have q0:w1.cell? ⟨w.heap.size,0,none⟩=some (.slice ao bs.length cap):=(zsm _ _ _ _ _ _ p0:w1.cell? ⟨w.heap.size,0,none⟩=_);clear hsp hb1 hb0 k0;cases hq:zdS G bs t a e
 ·have hN:CapA w r (.returned (.slice (some ⟨w1.heap.size,0,none⟩) 0 0)) (w1.alloc (.cells #[] 50)):=Hnil.out w1 bl (by
   rcases Hr.out with h|h
   ·exact h.2
   ·rw[hq] at h;exact absurd h.1 (by simp))
  have HN:Hid _:=hN;clear hN Hnil Hr;go_wp2;exact zsl (v:=.slice (some ⟨w1.heap.size,0,none⟩) 0 0) (by simp[results,Tryz.results5,go_sem]) rfl HN.out
 have hq0:=hq;unfold zdS zb5 at hq0;simp only[zrf,zsn] at hq0;obtain⟨⟨⟨⟨⟨⟨⟨hb1,hGG⟩,-⟩,hall⟩,-⟩,-⟩,-⟩,ht,ha0,hae,het⟩:=hq0;have hgr:=zf5 (G:=G) (bs:=bs) (by unfold zdS at hq;simp only[zrf] at hq;exact hq.1);obtain⟨a',rfl⟩:∃a':Nat,a=a':=⟨a.toNat,by omega⟩;obtain⟨e',rfl⟩:∃e':Nat,e=e':=⟨e.toNat,by omega⟩;obtain⟨n,rfl⟩:∃n:Nat,G=n:=⟨G.toNat,by omega⟩;have hae':a'<=e':=by omega
 have het':e'<=t.size:=by omega
 have hn5:n<=500:=by omega
 have hfor:=fun(k:Nat) (hk:k<bs.length)=>by
  have hmem:bs.getD k .zero∈bs:=by rw[zrw,zrD hk];exact zrJ _
  have hkb:=zrj.1 hall _ hmem;simp only[zrf] at hkb;exact(show _/\_ from⟨hkb,zfz _ hkb.1⟩)
 have hbel:=fun(k:Nat) (hk:k<bs.length) (W:World) (ao:Option Addr) (c:Nat) (h:zas lo W (.slice ao (bs.getD k .zero).nodes.length c) (bs.getD k .zero).nodes)=>zlb (bs.getD k .zero) ao c t a' e' cl W h (hsm.2 k hk).1 (hfor k hk).1.1 (hfor k hk).1.2 (hfor k hk).2.2 (hfor k hk).2.1 hae' het' ht
 have hready:=fun(k:Nat) (hk:k<bs.length) (W:World) (bol eol:Bool) (ao:Option Addr) (c:Nat) (h:zas lo W (.slice ao (bs.getD k .zero).nodes.length c) (bs.getD k .zero).nodes)=>zkP bol eol ao c (bs.getD k .zero).nodes t W h (hsm.2 k hk).1 (hfor k hk).1.1
 have hplace:=fun(k:Nat) (hk:k<bs.length)=>znv (bs.getD k .zero).nodes (hfor k hk).2.2 (hfor k hk).1.2 ((bs.getD k .zero).nodes.length-1) (by have:=(hfor k hk).2.1;omega)
 have htree:=fun(k:Nat) (hk:k<bs.length)=>zkb (bs.getD k .zero).nodes (hfor k hk).2.2 (hfor k hk).1.2 ((bs.getD k .zero).nodes.length-1) (by have:=(hfor k hk).2.1;omega)
 have hlens:=fun(k:Nat) (hk:k<bs.length)=>(show 0<(bs.getD k .zero).nodes.length/\(bs.getD k .zero).nodes.length<=1048576 from⟨(hfor k hk).2.1,(hsm.2 k hk).1⟩)
 have Hq:Hid _:=hq;have Hgr:Hid _:=hgr;have Htree:Hid _:=htree;have hlen:=hsm.1;clear hall hsm hq hgr hfor htree;go_wp2
 go_loopw [23] (fun i wr=>∃k:Nat,k<=bs.length/\i=.int .i64 k/\Below w.heap.size w wr/\wr.heap[w.heap.size]?=some (.cells #[.slice ao bs.length cap,.int .i64 n] 30 (0,0))/\Hid (∀j,j<k->¬za2 (bs.getD j .zero) t a' e' cl))
  (fun i _=>bs.length-(intOf i).toNat)
 case atStart=>exact⟨0,zsj _,rfl,bl,p0,fun j hj=>absurd hj (zsg _)⟩
 case round=>
  clear p0 q0 bl;obtain⟨k,hk,rfl,hb,kr,HN⟩:=hrel
  by_cases hlt:k<bs.length
  ·obtain⟨b,o,nv,bd,rfl,Hn,hbl,c0,c1,c2,hnv⟩:=hc.elem hb hlt;have hbk:=hbel k hlt;have hrd:=hready k hlt;have hpk:=hplace k hlt;have hln:=hlens k hlt;have Htr:=Htree.out k hlt;rw[Hn.out] at hbk hrd hpk hln Htr;have HTr:Hid _:=Htr;obtain⟨nao,ncap,rfl,hnm,hnc⟩:=hnv;have hnv:zas lo wr (.slice nao bd.nodes.length ncap) bd.nodes:=⟨nao,ncap,rfl,hnm,hnc⟩;obtain⟨W2,hW2⟩:∃W2,wr.alloc (.cells #[.bool bd.bol,.bool bd.eol,.slice nao bd.nodes.length ncap] 41)=W2:=⟨_,rfl⟩;have hba:Below w.heap.size w W2:=by rw[<-hW2];exact hb.alloc hb.size _
   have hbr2:Below wr.heap.size wr W2:=by rw[<-hW2];exact(Below.refl _ _).alloc (zsa _) _
   have kb:W2.heap[wr.heap.size]?=some (.cells #[.bool bd.bol,.bool bd.eol,.slice nao bd.nodes.length ncap] 41 (0,0)):=by rw[<-hW2];exact zsp _ _
   have kr2:=zat kr hbr2;have hnv2:=hnv.below hbr2;have hcall:=hbk _ nao ncap hnv2;obtain⟨z0,z1,z2,-,-,-⟩:=zac kb;clear hbk hbel hready hplace hlens hnc hc hnv hbr2 Htr Htree;have HB:Hid (za2 (bs.getD k .zero) t a' e' cl=za2 bd t a' e' cl):=by show _=_;rw[Hn.out]
   go_wp2_with fail
   refine hcall.mono ?_;rintro x w2 ⟨q,rfl,hiff,hb2⟩;have bl2:=zaa hba hba.size hb2;have kb2:=zat kb hb2;have kr3:=zat kr2 hb2;have hnv3:=hnv2.below hb2;clear hcall z0 z1 z2 hnv2 kb kr2 hW2;cases q
   ·go_wp2
    go_roundw
    case rel=>exact⟨k+1,by omega,by go_num,bl2,kr3,fun j hj=>by
     by_cases ej:j=k
     ·subst ej;rw[HB.out,<-hiff];simp
     ·exact HN.out j (by omega)⟩
    case measure=>simp[intOf];omega
   ·have hB1:za2 bd t a' e' cl:=by first|exact hiff.1 rfl|exact hiff.1 trivial
    obtain⟨l,hl,hre⟩:∃l,Pl t.data.toList (tOf bd.nodes (bd.nodes.length-1)) a' e' l/\r=upG (zbZ ((a':Int),(e':Int)) n) l:=by
     rcases Hr.out with ⟨h,_⟩|⟨_,j,hj,h1,h2,l,h3,h4⟩
     ·exact absurd ⟨Hq.out,k,hlt,by rw[show (a':Int).toNat=a' by omega,show (e':Int).toNat=e' by omega,HB.out];exact hB1⟩ h
     ·rw[show (a':Int).toNat=a' by omega,show (e':Int).toNat=e' by omega] at h2 h3;rw[show (n:Int).toNat=n by omega] at h4;have e:j=k:=by
       rcases zse j k with c|c|c
       ·exact absurd h2 (HN.out j c)
       ·exact c
       ·have:=h1 k c;rw[show (a':Int).toNat=a' by omega,show (e':Int).toNat=e' by omega,HB.out] at this;exact absurd hB1 this
      subst e;rw[Hn.out] at h3;exact⟨l,h3,h4⟩
    have hgl:∀x∈l,1<=x.1/\x.1<((n+1:Nat):Int):=fun x hx=>by
     have h1:=zdc _ _ _ _ hl x hx;have h2:=HTr.out.2 _ h1;have h3:=Hgr.out _ (zet bs k hlt _ (by rw[Hn.out];exact h2));omega
    have hPl:=fun(z:Int) (W:World) (gl cl' gr cr g' cap':Nat) (hz:z=((bd.nodes.length-1:Nat):Int)) (h0:Below w.heap.size w W) (h1:BrAt W bd.nodes (.slice nao bd.nodes.length ncap) gl gr) (h2:W.ownsRow w.heap.size 50 2 (.slice (some ⟨g',0,none⟩) (n+1) cap') (n+1) (pv (zbZ ((a':Int),(e':Int)) n)))=>by
     have:=hpk W nao ncap gl cl' gr cr t w.heap.size a' e' g' cap' (n+1) (zbZ ((a':Int),(e':Int)) n) l h1 h2 (zdb _ _) h0.size (by omega) (by omega) hae' het' ht hgl hl;rw[<-hz] at this;exact this
    have hwr:∀z:Int,z=IntKind.i64.wrap ((bd.nodes.length:Int)-1)->z=((bd.nodes.length-1:Nat):Int):=fun z h=>by rw[h,IntKind.wrap_i64];omega
    have Hre:Hid (r=upG (zbZ ((a':Int),(e':Int)) n) l):=hre;have hz1:((bd.nodes.length:Int)-1)=((bd.nodes.length-1:Nat):Int):=by omega
    obtain⟨y0,y1,y2,-,-,-⟩:=zac kb2;have u0:w2.cell? ⟨w.heap.size,0,none⟩=some (.slice (some ⟨b,o,none⟩) bs.length cap):=(zsm _ _ _ _ _ _ kr3:w2.cell? ⟨w.heap.size,0,none⟩=_);have u1:w2.cell? ⟨w.heap.size,1,none⟩=some (.int .i64 n):=(zsm _ _ _ _ _ _ kr3:w2.cell? ⟨w.heap.size,1,none⟩=_);have lb:=zbQ kb2;have lr:=zbQ kr3;clear hre hl hgl hpk hB1 hiff Hnil Hr HB HN kb2 kr3;have HB0:Below w2.heap.size w2 w2.drew:=(Below.refl _ _).drew;go_wp2
    go_region_held3 (fun w'=>Below w2.heap.size w2 w'/\w'.cell? ⟨wr.heap.size,0,none⟩=some (.bool bd.bol)/\w'.cell? ⟨wr.heap.size,1,none⟩=some (.bool bd.eol)/\w'.cell? ⟨wr.heap.size,2,none⟩=some (.slice nao bd.nodes.length ncap)/\w'.cell? ⟨w.heap.size,0,none⟩=some (.slice (some ⟨b,o,none⟩) bs.length cap)/\w'.cell? ⟨w.heap.size,1,none⟩=some (.int .i64 n)) ((first|exact⟨HB0,y0,y1,y2,u0,u1⟩|exact capK lb lr (by assumption) hb5|exact capK lb lr (by assumption) hb6|exact capK lb lr (by assumption) hb7|go_keep)) ((first|(have h5:=hbr5;have h6:=own6;go_at_call 16;refine(hPl _ _ gl cl2 gr cr g6 cap6 (by first|rfl|exact hwr _ rfl|exact hz1) (by first|exact zaa bl2 bl2.size (‹Below w2.heap.size w2 _/\_›).1) (by first|exact hbr5|exact hbr5.below hb6) (by first|exact own6|exact zab own6 hb5)).mono ?_;rintro x w7 ⟨g7,cap7,rfl,own7,hb7⟩)|(go_at_call 17;refine(hrd _ bd.bol bd.eol nao ncap (hnv3.below (by first|exact HB0|exact(‹Below w2.heap.size w2 _/\_›).1))).mono ?_;rintro x w5 ⟨hb5,gl,cl2,gr,cr,rfl,hbr5⟩)|(go_at_call 18;refine(zoW _ n a' e' _ hn5 w.heap.size (by first|exact zsb bl2.size HB0.size|exact zsb bl2.size (‹Below w2.heap.size w2 _/\_›).1.size)).mono ?_;rintro x w6 ⟨g6,cap6,rfl,own6,hb6⟩)))
    all_goals
     have hfin:=‹Below w2.heap.size w2 _/\_›;have bel:=zaa bl2 bl2.size hfin.1;rw[<-Hre.out] at own7;have Hlen:Hid (n+1=r.length):=by show _=_;rw[Hre.out,zcy,zdb]
     go_wp2;exact zsl (v:=.slice (some ⟨g7,0,none⟩) (n+1) cap7) (by simp[results,Tryz.results5,go_sem]) rfl ⟨_,rfl,by rw[<-Hlen.out];exact own7,bel⟩
  ·have hN:CapA w r (.returned (.slice (some ⟨wr.heap.size,0,none⟩) 0 0)) (wr.alloc (.cells #[] 50)):=Hnil.out wr hb (by
    rcases Hr.out with h|⟨_,j,hj,_,h,_⟩
    ·exact h.2
    ·rw[show (a':Int).toNat=a' by omega,show (e':Int).toNat=e' by omega] at h;exact absurd h (HN.out j (by omega)))
   have HN2:Hid _:=hN;clear hN Hnil Hr hbel hready hplace hlens;go_wp2;exact zsl (v:=.slice (some ⟨wr.heap.size,0,none⟩) 0 0) (by simp[results,Tryz.results5,go_sem]) rfl HN2.out
end
section
variable {G a e:Int}{bs:List zaf}{t:ByteArray}
theorem zm2{P:Nat->Prop}:∀(n k:Nat),k<=n->P k->∃j,j<=k/\P j/\∀i,i<j->¬P i
 |0,k,h,hp=>⟨k,zsa _,hp,fun i hi=>by omega⟩
 |n+1,k,h,hp=>by
  by_cases he:∃i,i<k/\P i
  ·obtain⟨i,h1,h2⟩:=he;obtain⟨j,a,b,c⟩:=zm2 n i (by omega) h2;exact⟨j,by omega,b,c⟩
  ·exact⟨k,zsa _,hp,fun i hi hq=>he ⟨i,hi,hq⟩⟩
theorem zkT(h:zdS G bs t a e=true){k:Nat}(hk:k<bs.length):zbW (bs.getD k .zero).nodes=true/\(bs.getD k .zero).nodes.all zav=true:=by
 unfold zdS zb5 at h;simp only[zrf,zsn] at h;obtain⟨⟨⟨⟨⟨⟨⟨-,-⟩,-⟩,hall⟩,-⟩,-⟩,-⟩,-⟩:=h;have hmem:bs.getD k .zero∈bs:=by rw[zrw,zrD hk];exact zrJ _
 have hkb:=zrj.1 hall _ hmem;simp only[zrf] at hkb;exact hkb
theorem zqs(h:zdS G bs t a e=true):t.size<=4096/\0<=a/\a<=e/\e<=t.size:=by
 unfold zdS at h;simp only[zrf,zsn] at h;exact h.2
theorem zme(G:Int)(bs:List zaf)(t:ByteArray)(a e:Int)(cl:Bool):∃r,CapR G bs t a e cl r:=by
 by_cases h:zqA G bs t a e cl
 ·obtain⟨h1,k0,h2,h3⟩:=h;obtain⟨k,hk,hb,hf⟩:=zm2 (P:=fun k=>za2 (bs.getD k .zero) t a.toNat e.toNat cl) k0 k0 (zsa _) h3;obtain⟨b1,b2,b3,b4⟩:=zqs h1;obtain⟨s1,s2⟩:=zkT h1 (k:=k) (by omega);obtain⟨p1,p2⟩:=zfz _ s1;have ho:=(zkb (bs.getD k .zero).nodes p2 s2 ((bs.getD k .zero).nodes.length-1) (by omega)).1;have htl:t.data.toList.length=t.size:=by simp
  obtain⟨l,hl⟩:=zcj (u:=t.data.toList) _ ho a.toNat e.toNat ⟨by omega,by omega,hb.2⟩;exact⟨_,.inr ⟨h1,k,by omega,hf,hb,l,hl,rfl⟩⟩
 ·exact⟨[],.inl ⟨h,rfl⟩⟩
theorem zoi{cl:Bool}{r:List (Int×Int)}(h:CapR G bs t a e cl r):r.length<=501:=by
 rcases h with ⟨-,rfl⟩|⟨h1,k,-,-,-,l,-,rfl⟩
 ·simp
 ·unfold zdS zb5 at h1;simp only[zrf,zsn] at h1;obtain⟨⟨⟨⟨⟨⟨⟨-,hG⟩,-⟩,-⟩,-⟩,-⟩,-⟩,-⟩:=h1;rw[zcy,zdb];omega
end
open Go.RowKit
attribute [local go_sem ↓] Go.wp_at_zero Go.wp_at_succ
theorem znW(ns:List zak)(hpos:0<ns.length)(h:(tstk ns ns.length).length=1):(tstk ns ns.length).getD 0 zbh=tOf ns (ns.length-1):=by
 obtain⟨m,hm⟩:∃m,ns.length=m+1:=⟨ns.length-1,by omega⟩;rw[hm] at h ⊢;rw[tstk,zpu] at h ⊢
 match hq:(tstk ns m).take ((tstk ns m).length-zaA (ns.getD m .zero).kind),h with
 |[],_=>rfl
 |_::_,h=>simp at h
theorem zoO{lo:Nat}(v:Value)(ns:List zak)(w:World)(hs:zas lo w v ns)(hn:ns.length<=1048576):
  Calls Tryz.prog 58 #[v] w fun e w'=>Below w.heap.size w w'/\((zd5 ns=none/\e=.returned (.tuple #[.nilIface,.bool false]))\/∃wt t x,zd5 ns=some wt/\e=.returned (.tuple #[.iface t x,.bool true])/\IsTr w' (.iface t x) (tOf ns (ns.length-1)) wt):=by
 obtain⟨ao,cap,rfl,hm,hc⟩:=hs;obtain⟨i0,hi,hz0,hz1,hz2⟩:=info_parts Tryz.infoPart
 go_enter Tryz.func58,Tryz.ntmps58
 go_wp2
 go_loopw [4,12] (fun s i wr=>∃(k:Nat) (st:List Int) (g sc:Nat) (xs:List Value),k<=ns.length/\i=.int .i64 k/\s=.slice (some ⟨g,0,none⟩) st.length sc/\Below w.heap.size w wr/\wr.ownsRow w.heap.size 85 1 (.slice (some ⟨g,0,none⟩) st.length sc) st.length xs/\zbH wr xs st (tstk ns k)/\st.length<=k/\Hid (zcw ns []=zcw (ns.drop k) st))
  (fun _ i _=>ns.length-(intOf i).toNat)
 case atStart=>exact⟨0,[],_,_,[],zsj _,rfl,rfl,(Below.refl _ _).alloc (zsa _) _,zfT _ _,⟨rfl,fun j hj=>absurd hj (zsg _),rfl⟩,zsa _,rfl⟩
 case round=>
  obtain⟨k,st,g,sc,xs,hk,rfl,rfl,hb,hown,hparts,hdk,HS⟩:=hrel;obtain⟨hgB,hgl,hdc,hcm⟩:=zbb hown;unfold maxLen at hcm
  by_cases hlt:k<ns.length
  ·obtain⟨b,o,sv,nd,rfl,Hn,hbl,c0,c1,c2,c3,c4,hsv⟩:=hc.elem hb hlt;have HD:Hid _:=zgI ns k hlt st nd Hn.out;obtain⟨kd,rs,mn,mx,gr⟩:=nd;simp only at c0 c2 c3 c4 hsv;obtain⟨sao,scp,rfl,hsm,hsc⟩:=hsv;have hz:=hb.size;have hba:Below w.heap.size w (wr.alloc (.cells #[.int .i64 kd,.slice sao rs.length scp,.int .i64 mn,.int .i64 mx,.int .i64 gr] 72)):=hb.alloc hz _;have hsva:zag lo (wr.alloc (.cells #[.int .i64 kd,.slice sao rs.length scp,.int .i64 mn,.int .i64 mx,.int .i64 gr] 72)) (.slice sao rs.length scp) rs:=zag.below ⟨_,_,rfl,hsm,hsc⟩ ((Below.refl _ _).alloc (zsa _) _);have hal:=zkh kd
   by_cases har:st.length<zaA kd
   ·have hneg:(st.length:Int)-(zaA kd:Int)<0:=by omega
    go_wp2_with (go_at_call 76;refine(zbo _ _).mono ?_;rintro e w2 ⟨rfl,rfl⟩)
    go_ret2
    exact⟨hba,.inl ⟨by unfold zd5;rw[HS.out,HD.out,zst (.inl har)],rfl⟩⟩
   have hnn:¬((st.length:Int)-(zaA kd:Int)<0):=by omega
   by_cases hnb:zav ⟨kd,rs,mn,mx,gr⟩=false
   ·go_wp2_with (first|(go_at_call 76;refine(zbo _ _).mono ?_;rintro e w2 ⟨rfl,rfl⟩)|(go_at_call 77;refine(zbx _ _ _ _ _ _ _ hsva).mono ?_;rintro e w3 ⟨rfl,hb3⟩))
    go_ret2
    exact⟨zaa hba hba.size hb3,.inl ⟨by unfold zd5;rw[HS.out,HD.out,zst (.inr hnb)],rfl⟩⟩
   have hnt:zav ⟨kd,rs,mn,mx,gr⟩=true:=by simpa using hnb
   clear hnb;have HD2:Hid (zcw (ns.drop k) st=zcw (ns.drop (k+1)) (zgm st ⟨kd,rs,mn,mx,gr⟩)):=by show _=_;rw[HD.out,zss (by rintro (h|h);exact har h;rw[h] at hnt;cases hnt)]
   clear HD
   by_cases hk2:kd=2
   ·obtain⟨hr0,rfl,rfl,rfl⟩:=zkG hnt (.inl hk2);subst hk2 hr0;obtain⟨m,hm2⟩:∃m,st.length=m+2:=⟨st.length-2,by have:zaA 2=2:=rfl;omega⟩;have HM:Hid _:=hm2;rw[hm2] at hown hdc hdk ⊢;clear hm2
    go_wp2_with (first|(go_at_call 76;refine(zbo _ _).mono ?_;rintro e w2 ⟨rfl,rfl⟩;rw[show zaA 2=2 from rfl])|(go_at_call 77;refine(zbx _ _ _ _ _ _ _ hsva).mono ?_;rintro e w3 ⟨rfl,hb3⟩))
    have hown3:=zab (hown.alloc _) hb3;have hz3:=hb3.size;have hvar:wr.heap.size<w3.heap.size:=zsc (by simp) hz3;have hbb3:=zaa hba hba.size hb3;obtain⟨t0,x0,hx0,hp0⟩:=hparts.2.1 m (by have:=HM.out;omega);obtain⟨t1,x1,hx1,hp1⟩:=hparts.2.1 (m+1) (by have:=HM.out;omega);have q0:w3.cell? ⟨g,m,none⟩=some (.iface t0 x0):=(hown3.cellAt m (by omega)).trans hx0;have q1:w3.cell? ⟨g,m+1,none⟩=some (.iface t1 x1):=(hown3.cellAt (m+1) (by omega)).trans hx1;clear hx0 hx1;have e0:w3.cell? ⟨wr.heap.size,0,none⟩=some (.int .i64 2):=(hb3.cell (by simp)).trans (by simp);have e1:w3.cell? ⟨wr.heap.size,1,none⟩=some (.slice sao 0 scp):=(hb3.cell (by simp)).trans (by simp);have e2:w3.cell? ⟨wr.heap.size,2,none⟩=some (.int .i64 0):=(hb3.cell (by simp)).trans (by simp);have e3:w3.cell? ⟨wr.heap.size,3,none⟩=some (.int .i64 0):=(hb3.cell (by simp)).trans (by simp);have e4:w3.cell? ⟨wr.heap.size,4,none⟩=some (.int .i64 0):=(hb3.cell (by simp)).trans (by simp);have i1:(0:Int)<=(m:Int):=by omega
    have i2:(m:Int)<=((m+2:Nat):Int):=by omega
    have i2':(m:Int)<=(m:Int)+2:=by omega
    have i3:((m+2:Nat):Int)<=(sc:Int):=by omega
    have i4:(m:Int)+2<=(sc:Int):=by omega
    have i5:(m:Int)<=(sc:Int):=by omega
    have i6:¬sc=m:=by omega
    go_region_held3 (fun w'=>w'.cell? ⟨wr.heap.size,0,none⟩=some (.int .i64 2)/\w'.cell? ⟨wr.heap.size,1,none⟩=some (.slice sao 0 scp)/\w'.cell? ⟨wr.heap.size,2,none⟩=some (.int .i64 0)/\w'.cell? ⟨wr.heap.size,3,none⟩=some (.int .i64 0)/\w'.cell? ⟨wr.heap.size,4,none⟩=some (.int .i64 0)) ((first|go_keep|exact⟨(hb4.cell (by exact hvar)).trans e0,(hb4.cell (by exact hvar)).trans e1,(hb4.cell (by exact hvar)).trans e2,(hb4.cell (by exact hvar)).trans e3,(hb4.cell (by exact hvar)).trans e4⟩)) ((go_at_call 78;refine(zoH _ _ _ _ _ g m (sc-m) w3.drew (by exact q0) (by exact q1)).mono ?_;rintro e w4 ⟨rfl,hb4⟩))
    have hown4:=za7 (zab (w:=w3.drew) hown3 hb4) (show m<=m+2 by omega);have hbb4:=zaa hbb3.drew hbb3.size hb4
    go_wp2_with (refine zaq w4 rfl (.tmp 36) (.tmp 38) 53 rfl w.heap.size 85 i0 _ 16 Tryz.underlying53 hi hz0 hz1 hz2 rfl g sc m (xs.take m) _ rfl hown4 rfl rfl (by omega) (by omega) hbb4.size ?_;intro g' cap' w5 hown5 hgrow5 hat)
    go_roundw
    case rel=>
     obtain⟨st',xs',hl,h1,h2,h3,h4⟩:=zcd (nd:=⟨2,[],0,0,0⟩) HM.out rfl rfl hparts (za6 (zaa (zaa ((Below.refl _ _).alloc (zsa _) _) (by simp) hb3).drew (zaa ((Below.refl _ _).alloc (zsa _) _) (by simp) hb3).size hb4) hown4 hgrow5) Hn.out (show IsTr w5 _ (zbq ⟨2,[],0,0,0⟩ ((tstk ns k).drop m)) (zcb ⟨2,[],0,0,0⟩ (st.drop m)) by rw[tn2,wn2,(zdo st m).1,(zdo st m).2,(zcA _ m).1,(zcA _ m).2];exact zoE (hp0.keep (za6 (zaa (zaa ((Below.refl _ _).alloc (zsa _) _) (by simp) hb3).drew (zaa ((Below.refl _ _).alloc (zsa _) _) (by simp) hb3).size hb4) hown4 hgrow5)) (hp1.keep (za6 (zaa (zaa ((Below.refl _ _).alloc (zsa _) _) (by simp) hb3).drew (zaa ((Below.refl _ _).alloc (zsa _) _) (by simp) hb3).size hb4) hown4 hgrow5))) (by have:=HM.out;omega) hown5 HS.out HD2.out;exact⟨k+1,st',g',cap',xs',by omega,by go_num,by rw[hl],hbb4.grown hgrow5 hbb4.size (by intro q hq;cases hq;exact hgB),h1,h2,h3,h4⟩
    case measure=>simp[intOf];omega
   by_cases hk3:kd=3
   ·obtain⟨hr0,rfl,rfl,rfl⟩:=zkG hnt (.inr hk3);subst hk3 hr0;obtain⟨m,hm2⟩:∃m,st.length=m+2:=⟨st.length-2,by have:zaA 3=2:=rfl;omega⟩;have HM:Hid _:=hm2;rw[hm2] at hown hdc hdk ⊢;clear hm2
    go_wp2_with (first|(go_at_call 76;refine(zbo _ _).mono ?_;rintro e w2 ⟨rfl,rfl⟩;rw[show zaA 3=2 from rfl])|(go_at_call 77;refine(zbx _ _ _ _ _ _ _ hsva).mono ?_;rintro e w3 ⟨rfl,hb3⟩))
    have hown3:=zab (hown.alloc _) hb3;have hz3:=hb3.size;have hvar:wr.heap.size<w3.heap.size:=zsc (by simp) hz3;have hbb3:=zaa hba hba.size hb3;obtain⟨t0,x0,hx0,hp0⟩:=hparts.2.1 m (by have:=HM.out;omega);obtain⟨t1,x1,hx1,hp1⟩:=hparts.2.1 (m+1) (by have:=HM.out;omega);have q0:w3.cell? ⟨g,m,none⟩=some (.iface t0 x0):=(hown3.cellAt m (by omega)).trans hx0;have q1:w3.cell? ⟨g,m+1,none⟩=some (.iface t1 x1):=(hown3.cellAt (m+1) (by omega)).trans hx1;clear hx0 hx1;have e0:w3.cell? ⟨wr.heap.size,0,none⟩=some (.int .i64 3):=(hb3.cell (by simp)).trans (by simp);have e1:w3.cell? ⟨wr.heap.size,1,none⟩=some (.slice sao 0 scp):=(hb3.cell (by simp)).trans (by simp);have e2:w3.cell? ⟨wr.heap.size,2,none⟩=some (.int .i64 0):=(hb3.cell (by simp)).trans (by simp);have e3:w3.cell? ⟨wr.heap.size,3,none⟩=some (.int .i64 0):=(hb3.cell (by simp)).trans (by simp);have e4:w3.cell? ⟨wr.heap.size,4,none⟩=some (.int .i64 0):=(hb3.cell (by simp)).trans (by simp);have i1:(0:Int)<=(m:Int):=by omega
    have i2:(m:Int)<=((m+2:Nat):Int):=by omega
    have i2':(m:Int)<=(m:Int)+2:=by omega
    have i3:((m+2:Nat):Int)<=(sc:Int):=by omega
    have i4:(m:Int)+2<=(sc:Int):=by omega
    have i5:(m:Int)<=(sc:Int):=by omega
    have i6:¬sc=m:=by omega
    go_region_held3 (fun w'=>w'.cell? ⟨wr.heap.size,0,none⟩=some (.int .i64 3)/\w'.cell? ⟨wr.heap.size,1,none⟩=some (.slice sao 0 scp)/\w'.cell? ⟨wr.heap.size,2,none⟩=some (.int .i64 0)/\w'.cell? ⟨wr.heap.size,3,none⟩=some (.int .i64 0)/\w'.cell? ⟨wr.heap.size,4,none⟩=some (.int .i64 0)) ((first|go_keep|exact⟨(hb4.cell (by exact hvar)).trans e0,(hb4.cell (by exact hvar)).trans e1,(hb4.cell (by exact hvar)).trans e2,(hb4.cell (by exact hvar)).trans e3,(hb4.cell (by exact hvar)).trans e4⟩)) ((go_at_call 78;refine(zoF _ _ _ _ _ g m (sc-m) w3.drew (by exact q0) (by exact q1)).mono ?_;rintro e w4 ⟨rfl,hb4⟩))
    have hown4:=za7 (zab (w:=w3.drew) hown3 hb4) (show m<=m+2 by omega);have hbb4:=zaa hbb3.drew hbb3.size hb4
    go_wp2_with (refine zaq w4 rfl (.tmp 36) (.tmp 38) 53 rfl w.heap.size 85 i0 _ 16 Tryz.underlying53 hi hz0 hz1 hz2 rfl g sc m (xs.take m) _ rfl hown4 rfl rfl (by omega) (by omega) hbb4.size ?_;intro g' cap' w5 hown5 hgrow5 hat)
    go_roundw
    case rel=>
     obtain⟨st',xs',hl,h1,h2,h3,h4⟩:=zcd (nd:=⟨3,[],0,0,0⟩) HM.out rfl rfl hparts (za6 (zaa (zaa ((Below.refl _ _).alloc (zsa _) _) (by simp) hb3).drew (zaa ((Below.refl _ _).alloc (zsa _) _) (by simp) hb3).size hb4) hown4 hgrow5) Hn.out (show IsTr w5 _ (zbq ⟨3,[],0,0,0⟩ ((tstk ns k).drop m)) (zcb ⟨3,[],0,0,0⟩ (st.drop m)) by rw[tn3,wn3,(zdo st m).1,(zdo st m).2,(zcA _ m).1,(zcA _ m).2];exact zoB (hp0.keep (za6 (zaa (zaa ((Below.refl _ _).alloc (zsa _) _) (by simp) hb3).drew (zaa ((Below.refl _ _).alloc (zsa _) _) (by simp) hb3).size hb4) hown4 hgrow5)) (hp1.keep (za6 (zaa (zaa ((Below.refl _ _).alloc (zsa _) _) (by simp) hb3).drew (zaa ((Below.refl _ _).alloc (zsa _) _) (by simp) hb3).size hb4) hown4 hgrow5))) (by have:=HM.out;omega) hown5 HS.out HD2.out;exact⟨k+1,st',g',cap',xs',by omega,by go_num,by rw[hl],hbb4.grown hgrow5 hbb4.size (by intro q hq;cases hq;exact hgB),h1,h2,h3,h4⟩
    case measure=>simp[intOf];omega
   by_cases hk5:kd=5
   ·subst hk5;obtain⟨hr0,rfl,rfl⟩:=zni hnt;subst hr0;obtain⟨m,hm2⟩:∃m,st.length=m+1:=⟨st.length-1,by have:zaA 5=1:=rfl;omega⟩;have HM:Hid _:=hm2;rw[hm2] at hown hdc hdk ⊢;clear hm2
    go_wp2_with (first|(go_at_call 76;refine(zbo _ _).mono ?_;rintro e w2 ⟨rfl,rfl⟩;rw[show zaA 5=1 from rfl])|(go_at_call 77;refine(zbx _ _ _ _ _ _ _ hsva).mono ?_;rintro e w3 ⟨rfl,hb3⟩))
    have hown3:=zab (hown.alloc _) hb3;have hz3:=hb3.size;have hvar:wr.heap.size<w3.heap.size:=zsc (by simp) hz3;have hbb3:=zaa hba hba.size hb3;obtain⟨t0,x0,hx0,hp0⟩:=hparts.2.1 m (by have:=HM.out;omega);have q0:w3.cell? ⟨g,m,none⟩=some (.iface t0 x0):=(hown3.cellAt m (by omega)).trans hx0;clear hx0;have e0:w3.cell? ⟨wr.heap.size,0,none⟩=some (.int .i64 5):=(hb3.cell (by simp)).trans (by simp);have e1:w3.cell? ⟨wr.heap.size,1,none⟩=some (.slice sao 0 scp):=(hb3.cell (by simp)).trans (by simp);have e2:w3.cell? ⟨wr.heap.size,2,none⟩=some (.int .i64 0):=(hb3.cell (by simp)).trans (by simp);have e3:w3.cell? ⟨wr.heap.size,3,none⟩=some (.int .i64 0):=(hb3.cell (by simp)).trans (by simp);have e4:w3.cell? ⟨wr.heap.size,4,none⟩=some (.int .i64 gr):=(hb3.cell (by simp)).trans (by simp);have i1:(0:Int)<=(m:Int):=by omega
    have i2:(m:Int)<=((m+1:Nat):Int):=by omega
    have i2':(m:Int)<=(m:Int)+1:=by omega
    have i3:((m+1:Nat):Int)<=(sc:Int):=by omega
    have i4:(m:Int)+1<=(sc:Int):=by omega
    have i5:(m:Int)<=(sc:Int):=by omega
    have i6:¬sc=m:=by omega
    go_region_held3 (fun w'=>w'.cell? ⟨wr.heap.size,0,none⟩=some (.int .i64 5)/\w'.cell? ⟨wr.heap.size,1,none⟩=some (.slice sao 0 scp)/\w'.cell? ⟨wr.heap.size,2,none⟩=some (.int .i64 0)/\w'.cell? ⟨wr.heap.size,3,none⟩=some (.int .i64 0)/\w'.cell? ⟨wr.heap.size,4,none⟩=some (.int .i64 gr)) ((first|go_keep|exact⟨(hb4.cell (by exact hvar)).trans e0,(hb4.cell (by exact hvar)).trans e1,(hb4.cell (by exact hvar)).trans e2,(hb4.cell (by exact hvar)).trans e3,(hb4.cell (by exact hvar)).trans e4⟩)) ((go_at_call 78;refine(zoG _ _ _ _ g m (sc-m) w3.drew (by exact q0)).mono ?_;rintro e w4 ⟨rfl,hb4⟩))
    have hown4:=za7 (zab (w:=w3.drew) hown3 hb4) (show m<=m+1 by omega);have hbb4:=zaa hbb3.drew hbb3.size hb4
    go_wp2_with (refine zaq w4 rfl (.tmp 36) (.tmp 38) 53 rfl w.heap.size 85 i0 _ 16 Tryz.underlying53 hi hz0 hz1 hz2 rfl g sc m (xs.take m) _ rfl hown4 rfl rfl (by omega) (by omega) hbb4.size ?_;intro g' cap' w5 hown5 hgrow5 hat)
    go_roundw
    case rel=>
     obtain⟨st',xs',hl,h1,h2,h3,h4⟩:=zcd (nd:=⟨5,[],0,0,gr⟩) HM.out rfl rfl hparts (za6 (zaa (zaa ((Below.refl _ _).alloc (zsa _) _) (by simp) hb3).drew (zaa ((Below.refl _ _).alloc (zsa _) _) (by simp) hb3).size hb4) hown4 hgrow5) Hn.out (show IsTr w5 _ (zbq ⟨5,[],0,0,gr⟩ ((tstk ns k).drop m)) (zcb ⟨5,[],0,0,gr⟩ (st.drop m)) by rw[tn5,wn5,ze7,(zcA _ m).1];exact zoC (hp0.keep (za6 (zaa (zaa ((Below.refl _ _).alloc (zsa _) _) (by simp) hb3).drew (zaa ((Below.refl _ _).alloc (zsa _) _) (by simp) hb3).size hb4) hown4 hgrow5))) (by have:=HM.out;omega) hown5 HS.out HD2.out;exact⟨k+1,st',g',cap',xs',by omega,by go_num,by rw[hl],hbb4.grown hgrow5 hbb4.size (by intro q hq;cases hq;exact hgB),h1,h2,h3,h4⟩
    case measure=>simp[intOf];omega
   by_cases hk4:kd=4
   ·subst hk4;obtain⟨hr0,hbd,rfl⟩:=zfM hnt;subst hr0;have HB:Hid _:=hbd;clear hbd;obtain⟨m,hm2⟩:∃m,st.length=m+1:=⟨st.length-1,by have:zaA 4=1:=rfl;omega⟩;have HM:Hid _:=hm2;rw[hm2] at hown hdc hdk ⊢;clear hm2
    go_wp2_with (first|(go_at_call 76;refine(zbo _ _).mono ?_;rintro e w2 ⟨rfl,rfl⟩;rw[show zaA 4=1 from rfl])|(go_at_call 77;refine(zbx _ _ _ _ _ _ _ hsva).mono ?_;rintro e w3 ⟨rfl,hb3⟩))
    have hown3:=zab (hown.alloc _) hb3;have hz3:=hb3.size;have hvar:wr.heap.size<w3.heap.size:=zsc (by simp) hz3;have hbb3:=zaa hba hba.size hb3;obtain⟨t0,x0,hx0,hp0⟩:=hparts.2.1 m (by have:=HM.out;omega);have q0:w3.cell? ⟨g,m,none⟩=some (.iface t0 x0):=(hown3.cellAt m (by omega)).trans hx0;obtain⟨p0,hp0t,hpw,hpi⟩:=hp0;have hp3:zai w3.drew (.iface t0 x0) p0:=zai.keep (.of (zaa ((Below.refl _ _).alloc (zsa _) _) (by simp) hb3).drew) _ _ hp0t;clear hp0t;clear hx0;have e0:w3.cell? ⟨wr.heap.size,0,none⟩=some (.int .i64 4):=(hb3.cell (by simp)).trans (by simp);have e1:w3.cell? ⟨wr.heap.size,1,none⟩=some (.slice sao 0 scp):=(hb3.cell (by simp)).trans (by simp);have e2:w3.cell? ⟨wr.heap.size,2,none⟩=some (.int .i64 mn):=(hb3.cell (by simp)).trans (by simp);have e3:w3.cell? ⟨wr.heap.size,3,none⟩=some (.int .i64 mx):=(hb3.cell (by simp)).trans (by simp);have e4:w3.cell? ⟨wr.heap.size,4,none⟩=some (.int .i64 0):=(hb3.cell (by simp)).trans (by simp);have i1:(0:Int)<=(m:Int):=by omega
    have i2:(m:Int)<=((m+1:Nat):Int):=by omega
    have i2':(m:Int)<=(m:Int)+1:=by omega
    have i3:((m+1:Nat):Int)<=(sc:Int):=by omega
    have i4:(m:Int)+1<=(sc:Int):=by omega
    have i5:(m:Int)<=(sc:Int):=by omega
    have i6:¬sc=m:=by omega
    go_region_held3 (fun w'=>w'.cell? ⟨wr.heap.size,0,none⟩=some (.int .i64 4)/\w'.cell? ⟨wr.heap.size,1,none⟩=some (.slice sao 0 scp)/\w'.cell? ⟨wr.heap.size,2,none⟩=some (.int .i64 mn)/\w'.cell? ⟨wr.heap.size,3,none⟩=some (.int .i64 mx)/\w'.cell? ⟨wr.heap.size,4,none⟩=some (.int .i64 0)) ((first|go_keep|exact⟨(hb4.cell (by exact hvar)).trans e0,(hb4.cell (by exact hvar)).trans e1,(hb4.cell (by exact hvar)).trans e2,(hb4.cell (by exact hvar)).trans e3,(hb4.cell (by exact hvar)).trans e4⟩)) ((go_at_call 78;refine(zmX _ _ p0 mn mx g m (sc-m) w3.drew (by exact q0) hp3 HB.out).mono ?_;rintro e w4 ⟨t4,x4,p4,rfl,hp4,hw4,hi4,hb4⟩))
    have hown4:=za7 (zab (w:=w3.drew) hown3 hb4) (show m<=m+1 by omega);have hbb4:=zaa hbb3.drew hbb3.size hb4
    go_wp2_with (refine zaq w4 rfl (.tmp 36) (.tmp 38) 53 rfl w.heap.size 85 i0 _ 16 Tryz.underlying53 hi hz0 hz1 hz2 rfl g sc m (xs.take m) _ rfl hown4 rfl rfl (by omega) (by omega) hbb4.size ?_;intro g' cap' w5 hown5 hgrow5 hat)
    go_roundw
    case rel=>
     obtain⟨st',xs',hl,h1,h2,h3,h4⟩:=zcd (nd:=⟨4,[],mn,mx,0⟩) HM.out rfl rfl hparts (za6 (zaa (zaa ((Below.refl _ _).alloc (zsa _) _) (by simp) hb3).drew (zaa ((Below.refl _ _).alloc (zsa _) _) (by simp) hb3).size hb4) hown4 hgrow5) Hn.out (show IsTr w5 _ (zbq ⟨4,[],mn,mx,0⟩ ((tstk ns k).drop m)) (zcb ⟨4,[],mn,mx,0⟩ (st.drop m)) by rw[tn4,wn4,ze7,(zcA _ m).1];exact zoD hpw hpi (zai.keep (za6 (Below.refl _ _) hown4 hgrow5) _ _ hp4) hw4 hi4) (by have:=HM.out;omega) hown5 HS.out HD2.out;exact⟨k+1,st',g',cap',xs',by omega,by go_num,by rw[hl],hbb4.grown hgrow5 hbb4.size (by intro q hq;cases hq;exact hgB),h1,h2,h3,h4⟩
    case measure=>simp[intOf];omega
   have hk1:kd=1:=by rcases zfN hnt with h|h|h|h|h<;>omega
   ·subst hk1;obtain⟨hr0,rfl,rfl,rfl⟩:=zoV hnt;have HR:Hid _:=hr0;clear hr0 hk2 hk3 hk4 hk5;obtain⟨m,hm2⟩:∃m,st.length=m+0:=⟨st.length-0,by have:zaA 1=0:=rfl;omega⟩;have HM:Hid _:=hm2;rw[hm2] at hown hdc hdk ⊢;clear hm2
    by_cases hcm1:m=sc
    ·subst hcm1
     go_wp2_with (first|(go_at_call 76;refine(zbo _ _).mono ?_;rintro e w2 ⟨rfl,rfl⟩;rw[show zaA 1=0 from rfl])|(go_at_call 77;refine(zbx _ _ _ _ _ _ _ hsva).mono ?_;rintro e w3 ⟨rfl,hb3⟩))
     have hown3:=zab (hown.alloc _) hb3;have hz3:=hb3.size;have hvar:wr.heap.size<w3.heap.size:=zsc (by simp) hz3;have hbb3:=zaa hba hba.size hb3;have e0:w3.cell? ⟨wr.heap.size,0,none⟩=some (.int .i64 1):=(hb3.cell (by simp)).trans (by simp);have e1:w3.cell? ⟨wr.heap.size,1,none⟩=some (.slice sao rs.length scp):=(hb3.cell (by simp)).trans (by simp);have e2:w3.cell? ⟨wr.heap.size,2,none⟩=some (.int .i64 0):=(hb3.cell (by simp)).trans (by simp);have e3:w3.cell? ⟨wr.heap.size,3,none⟩=some (.int .i64 0):=(hb3.cell (by simp)).trans (by simp);have e4:w3.cell? ⟨wr.heap.size,4,none⟩=some (.int .i64 0):=(hb3.cell (by simp)).trans (by simp);have hq1:zag lo w3.drew (.slice sao rs.length scp) rs:=hsva.below hb3.drew;have i1:(0:Int)<=(m:Int):=by omega
     have i2:(m:Int)<=((m+0:Nat):Int):=by omega
     have i2':(m:Int)<=(m:Int)+0:=by omega
     have i3:((m+0:Nat):Int)<=(m:Int):=by omega
     have i4:(m:Int)+0<=(m:Int):=by omega
     have i5:(m:Int)<=(m:Int):=by omega
     go_region_held3 (fun w'=>w'.cell? ⟨wr.heap.size,0,none⟩=some (.int .i64 1)/\w'.cell? ⟨wr.heap.size,1,none⟩=some (.slice sao rs.length scp)/\w'.cell? ⟨wr.heap.size,2,none⟩=some (.int .i64 0)/\w'.cell? ⟨wr.heap.size,3,none⟩=some (.int .i64 0)/\w'.cell? ⟨wr.heap.size,4,none⟩=some (.int .i64 0)) ((first|go_keep|exact⟨(hb4.cell (by exact hvar)).trans e0,(hb4.cell (by exact hvar)).trans e1,(hb4.cell (by exact hvar)).trans e2,(hb4.cell (by exact hvar)).trans e3,(hb4.cell (by exact hvar)).trans e4⟩)) ((go_at_call 78;refine(zku _ _ _ _ (hq1) HR.out).mono ?_;rintro e w4 ⟨mg,rfl,hmg,hmr,hb4⟩))
     have hown4:=za7 (zab (w:=w3.drew) hown3 hb4) (show m<=m+0 by omega);have hbb4:=zaa hbb3.drew hbb3.size hb4
     go_wp2_with (refine zaq w4 rfl (.tmp 36) (.tmp 38) 53 rfl w.heap.size 85 i0 _ 16 Tryz.underlying53 hi hz0 hz1 hz2 rfl g m m (xs.take m) _ rfl hown4 rfl rfl (by omega) (by omega) hbb4.size ?_;intro g' cap' w5 hown5 hgrow5 hat)
     go_roundw
     case rel=>
      obtain⟨st',xs',hl,h1,h2,h3,h4⟩:=zcd (nd:=⟨1,rs,0,0,0⟩) HM.out rfl rfl hparts (za6 (zaa (zaa ((Below.refl _ _).alloc (zsa _) _) (by simp) hb3).drew (zaa ((Below.refl _ _).alloc (zsa _) _) (by simp) hb3).size hb4) hown4 hgrow5) Hn.out (show IsTr w5 _ (zbq ⟨1,rs,0,0,0⟩ ((tstk ns k).drop m)) (zcb ⟨1,rs,0,0,0⟩ (st.drop m)) by rw[tn1,wn1];exact(zkt hmr).keep (za6 (Below.refl _ _) hown4 hgrow5)) (by have:=HM.out;omega) hown5 HS.out HD2.out;exact⟨k+1,st',g',cap',xs',by omega,by go_num,by rw[hl],hbb4.grown hgrow5 hbb4.size (by intro q hq;cases hq;exact hgB),h1,h2,h3,h4⟩
     case measure=>simp[intOf];omega
    ·have hcm2:¬sc=m:=fun h=>hcm1 h.symm
     clear hcm1
     go_wp2_with (first|(go_at_call 76;refine(zbo _ _).mono ?_;rintro e w2 ⟨rfl,rfl⟩;rw[show zaA 1=0 from rfl])|(go_at_call 77;refine(zbx _ _ _ _ _ _ _ hsva).mono ?_;rintro e w3 ⟨rfl,hb3⟩))
     have hown3:=zab (hown.alloc _) hb3;have hz3:=hb3.size;have hvar:wr.heap.size<w3.heap.size:=zsc (by simp) hz3;have hbb3:=zaa hba hba.size hb3;have e0:w3.cell? ⟨wr.heap.size,0,none⟩=some (.int .i64 1):=(hb3.cell (by simp)).trans (by simp);have e1:w3.cell? ⟨wr.heap.size,1,none⟩=some (.slice sao rs.length scp):=(hb3.cell (by simp)).trans (by simp);have e2:w3.cell? ⟨wr.heap.size,2,none⟩=some (.int .i64 0):=(hb3.cell (by simp)).trans (by simp);have e3:w3.cell? ⟨wr.heap.size,3,none⟩=some (.int .i64 0):=(hb3.cell (by simp)).trans (by simp);have e4:w3.cell? ⟨wr.heap.size,4,none⟩=some (.int .i64 0):=(hb3.cell (by simp)).trans (by simp);have hq1:zag lo w3.drew (.slice sao rs.length scp) rs:=hsva.below hb3.drew;have i1:(0:Int)<=(m:Int):=by omega
     have i2:(m:Int)<=((m+0:Nat):Int):=by omega
     have i2':(m:Int)<=(m:Int)+0:=by omega
     have i3:((m+0:Nat):Int)<=(sc:Int):=by omega
     have i4:(m:Int)+0<=(sc:Int):=by omega
     have i5:(m:Int)<=(sc:Int):=by omega
     go_region_held3 (fun w'=>w'.cell? ⟨wr.heap.size,0,none⟩=some (.int .i64 1)/\w'.cell? ⟨wr.heap.size,1,none⟩=some (.slice sao rs.length scp)/\w'.cell? ⟨wr.heap.size,2,none⟩=some (.int .i64 0)/\w'.cell? ⟨wr.heap.size,3,none⟩=some (.int .i64 0)/\w'.cell? ⟨wr.heap.size,4,none⟩=some (.int .i64 0)) ((first|go_keep|exact⟨(hb4.cell (by exact hvar)).trans e0,(hb4.cell (by exact hvar)).trans e1,(hb4.cell (by exact hvar)).trans e2,(hb4.cell (by exact hvar)).trans e3,(hb4.cell (by exact hvar)).trans e4⟩)) ((go_at_call 78;refine(zku _ _ _ _ (hq1) HR.out).mono ?_;rintro e w4 ⟨mg,rfl,hmg,hmr,hb4⟩))
     have hown4:=za7 (zab (w:=w3.drew) hown3 hb4) (show m<=m+0 by omega);have hbb4:=zaa hbb3.drew hbb3.size hb4
     go_wp2_with (refine zaq w4 rfl (.tmp 36) (.tmp 38) 53 rfl w.heap.size 85 i0 _ 16 Tryz.underlying53 hi hz0 hz1 hz2 rfl g sc m (xs.take m) _ rfl hown4 rfl rfl (by omega) (by omega) hbb4.size ?_;intro g' cap' w5 hown5 hgrow5 hat)
     go_roundw
     case rel=>
      obtain⟨st',xs',hl,h1,h2,h3,h4⟩:=zcd (nd:=⟨1,rs,0,0,0⟩) HM.out rfl rfl hparts (za6 (zaa (zaa ((Below.refl _ _).alloc (zsa _) _) (by simp) hb3).drew (zaa ((Below.refl _ _).alloc (zsa _) _) (by simp) hb3).size hb4) hown4 hgrow5) Hn.out (show IsTr w5 _ (zbq ⟨1,rs,0,0,0⟩ ((tstk ns k).drop m)) (zcb ⟨1,rs,0,0,0⟩ (st.drop m)) by rw[tn1,wn1];exact(zkt hmr).keep (za6 (Below.refl _ _) hown4 hgrow5)) (by have:=HM.out;omega) hown5 HS.out HD2.out;exact⟨k+1,st',g',cap',xs',by omega,by go_num,by rw[hl],hbb4.grown hgrow5 hbb4.size (by intro q hq;cases hq;exact hgB),h1,h2,h3,h4⟩
     case measure=>simp[intOf];omega
  ·have hkk:k=ns.length:=by omega
   have HF:Hid (zcw ns []=some st):=by show _=_;rw[HS.out,zrq (by omega)];rfl
   by_cases hone:st.length=1
   ·obtain⟨t0,x0,hx0,hp0⟩:=hparts.2.1 0 (by omega);rw[hone] at hown ⊢;have q0:wr.cell? ⟨g,0,none⟩=some (.iface t0 x0):=(hown.cellAt 0 (by omega)).trans hx0;have Hone:Hid _:=hone;have HTL:Hid ((tstk ns k).length=1):=by show _=_;rw[hparts.2.2];exact Hone.out
    clear hone hx0;go_wp2
    go_ret2
    refine⟨hb,.inr ⟨st.getD 0 0,t0,x0,?_,rfl,?_⟩⟩
    rotate_left
    ·rw[hkk] at hp0 HTL;rw[znW ns (by have:=Hone.out;omega) HTL.out] at hp0;exact hp0
    unfold zd5;rw[HF.out]
    match st,Hone.out with
    |[a],_=>rfl
   ·have hne:(((st.length:Nat):Int) != 1)=true:=by rw[bne_iff_ne];omega
    have Hone:Hid _:=hone;clear hone;go_wp2
    go_ret2
    refine⟨hb,.inl ⟨?_,rfl⟩⟩;unfold zd5;rw[HF.out]
    match st,Hone.out with
    |[],_=>rfl
    |[a],h=>exact absurd rfl h
    |_::_::_,_=>rfl
end Go.Proofs.YthdljcdbfmhleaaGreatDoor
