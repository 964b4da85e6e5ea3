import Derived.Test.YtfajjdgkiilhfaaC5
import Derived.OrdersIn
import Derived.RangeFuncCalls
namespace Go.Proofs.Ytfajjdgkiilhfaa
open Go renaming World->za,Value->zi
open Option renaming some->zh,none->zn
set_option maxHeartbeats 2000000
set_option maxRecDepth 100000
open Go.RowKit
attribute [local go_sem ↓] wp_at_zero wp_at_succ
section
variable {gt n:Nat}{v:Nat -> zi}{l:Nat -> List Int}
theorem aS.put{W:za}(h:aS gt n W v l){i:Nat}(hi:i<n){g m cap:Nat}(hv:v i=.slice (zh ⟨g,0,zn⟩) m cap)(hm:(l i).length=m)(j:Nat)(y:Int):aS gt n (W.setCell ⟨g,j,zn⟩ (.int .i64 y)) v (bq l i ((l i).set j y)):=by
 refine⟨λk hk=>?_,h.apart⟩
 by_cases e:k=i
 ·subst e;rw[ez];have ho:W.ownsRow (gt+1) 3 1 (.slice (zh ⟨g,0,zn⟩) m cap) m ((l k).map mU):=by have:=h.own k hi;unfold dQ at this;rw[hv,hm]at this;exact this
  have hs:=(ho.stored j (.int .i64 y)).1;unfold dQ;rw[hv,qP,hm,List.map_set];exact hs
 ·rw[a8 _ _ e];refine Cg (h.own k hk) λb hb=>cS _ _ _ _ (λe2=>?_)
  have:(v i).ownBlock=zh b:=by rw[hv];simp only[Value.ownBlock];rw[show g=b from e2.symm]
  exact h.apart k i hk hi e b hb this
theorem ur{w:za}{g:Nat}{a b c:zi}{t:TypeId}(h:w.heap[g]?=zh (.cells #[a,b,c] t (0,0))):w.cell? ⟨g,0,zn⟩=zh a/\w.cell? ⟨g,1,zn⟩=zh b/\w.cell? ⟨g,2,zn⟩=zh c:=⟨kr h 0,kr h 1,kr h 2⟩
def kw(o:List Nat)(xs:List Nat)(b:Nat):List Nat:=xs.foldl (λo s=>o.set s b) o
theorem DN(xs:List Nat)(b:Nat):∀o:List Nat,(kw o xs b).length=o.length:=by
 induction xs with
 |nil=>intro o;rfl
 |cons x xs ih=>intro o;show (kw (o.set x b) xs b).length=_;rw[ih];simp
theorem zfG(xs:List Nat)(b:Nat):∀(o:List Nat) (s:Nat),s<o.length->(kw o xs b).getD s 0=if s∈xs then b else o.getD s 0:=by
 induction xs with
 |nil=>intro o s _;simp[kw]
 |cons x xs ih=>
  intro o s hs;show (kw (o.set x b) xs b).getD s 0=_;rw[ih _ s (by simpa using hs)]
  by_cases h1:s∈xs
  ·rw[ae h1,ae (by simp[h1])]
  ·rw[ab h1]
   by_cases h2:s=x
   ·subst h2;rw[ae (by simp),bI,List.getElem?_set_self hs]
    rfl
   ·rw[ab (by simp[h1,h2]),bI,List.getElem?_set_ne (λe=>h2 e.symm),<-bI]
theorem zl1(o xs:List Nat)(x b:Nat):kw o (xs++[x]) b=(kw o xs b).set x b:=by simp[kw]
theorem PR{xs:List Nat}{j:Nat}(h:j<xs.length):xs.take (j+1)=xs.take j++[xs.getD j 0]:=by
 rw[bI,bE h,vD h]
 rfl
theorem zoU(l:List Nat)(i x:Nat):(aO l).set i (x:Int)=aO (l.set i x):=by simp[aO,List.map_set]
theorem zjc{N p:Nat}{mv:zi}(i b:Nat)(o xs:List Nat)(w:za)(hF:aS gt N w v l)(Ak:w.heap[p]?=zh (.cells #[v 0,mv,v 1] 66 (0,0)))(h0:0<N)(hi:i<N)(fk:0<i)(hn:o.length=n)(Dv:0<n)(sD:l 0=aO o)(Lm:l i=aO xs)(Jc:∀s∈xs,s<n)(gz:0<xs.length)(FR:xs.length<=1000000)(sv:zi)(jr:sv=v i):
  Calls Try.prog 72 #[.pointer (zh ⟨p,0,zn⟩),sv,.int .i64 (b:Int)] w λe w'=>e=.returned (.tuple #[])/\aS gt N w' v (bq l 0 (aO (kw o xs b)))/\w.grownBy w' (v 0).ownBlock:=by
 subst jr;have ho:=hF.own i hi;rw[Lm]at ho;obtain⟨gs,cs,es,_,yD,hcs⟩:=pC ho (by rw[cW];exact gz);rw[cW]at es hcs;have IX:=hF.own 0 h0;rw[sD]at IX;obtain⟨go,co,e0,_,hgo,Oq⟩:=pC IX (by rw[cW];omega);rw[cW,hn]at e0;have hne:gs≠go:=λe=>hF.apart i 0 hi h0 (by omega) gs (by rw[es];rfl) (by rw[e0,e];rfl)
 rw[es];have HA:Hid ((v 0).ownBlock=zh go):=by show _=_;rw[e0];rfl
 rw[e0]at Ak;have kx:Hid _:=e0;have HF:Hid (aS gt N w v (bq l 0 (aO (kw o (xs.take 0) b)))):=hF.congr (λ_ _=>rfl) (λk _=>by
  by_cases e:k=0
  ·subst e;rw[ez,sD];rfl
  ·rw[a8 _ _ e])
 have dz:=az Ak;have S4:p≠go:=λe=>by
  subst e;obtain⟨a9,hc⟩:=jx IX HA.out;rw[Ak]at hc;exact absurd (er hc) (by decide)
 clear e0 es ho IX hF
 go_enter Try.func72,Try.ntmps72
 go_wp2
 go_loopw [10] (λj wr=>∃k:Nat,k<=xs.length/\j=.int .i64 k/\Hid (aS gt N wr v (bq l 0 (aO (kw o (xs.take k) b))))/\w.grownBy wr (zh go))
  (λj _=>xs.length-(intOf j).toNat)
 case atStart=>exact⟨0,bH _,rfl,HF.out,World.grownBy.refl _ _⟩
 case round=>
  clear HF;obtain⟨k,hk,rfl,HF,hg⟩:=hrel;have aP:=(hg.block p dz (by simpa using S4)).trans Ak
  by_cases hlt:k<xs.length
  ·obtain⟨q0,q1,q2⟩:=ur aP;have c0:wr.cell? ⟨gs,k,zn⟩=_:=(World.cell?_of_block (hg.block gs yD (by simpa using hne))).trans (hcs k hlt);rw[uu]at c0;have wI:=Jc _ (kO hlt);have hP:Hid _:=HF.out.put h0 kx.out (by rw[ez,cW,DN,hn]) (xs.getD k 0) (b:Int);have Lv:=HF.out.own 0 h0;rw[ez]at Lv;obtain⟨go',Ry,e1,_,_,nK⟩:=pC Lv (by rw[cW,DN];omega);rw[kx.out,cW,DN,hn]at e1;cases e1;have c1:=nK (xs.getD k 0) (by rw[cW,DN,hn];exact wI);obtain⟨a9,Ao⟩:=jx Lv HA.out;have f1:=aR _ _ (xs.getD k 0) _ _ Ao;have HT:Hid _:=PR hlt;have cG:(k:Int)<(xs.length:Int):=by omega
   have fA:((xs.getD k 0:Nat):Int)<(n:Int):=by omega
   generalize (aO (kw o (List.take k xs) b)).getD (xs.getD k 0) 0=old at *;generalize xs.getD k 0=s0 at *;clear Ao Lv nK;go_wp2
   go_roundw
   case rel=>
    refine⟨k+1,by omega,by go_num,?_,hg.trans (oK _ _ _ _)⟩;refine hP.out.congr (λ_ _=>rfl) (λj _=>?_)
    by_cases e:j=0
    ·subst e;rw[ez,ez,ez,HT.out,zl1,zoU]
    ·rw[a8 _ _ e,a8 _ _ e,a8 _ _ e]
   case measure=>simp[intOf];omega
  ·have cI:k=xs.length:=by omega
   subst cI;go_wp2
   go_end0
   refine⟨rfl,?_,by rw[HA.out];exact hg⟩;have:=HF.out;rw[th]at this;exact this
end
section
open Go
section
variable {P:Program} {ops:Array Oper} {md:Region.Mode} {C:za->Prop}
def mz(md:Region.Mode)(ops:Array Oper)(listed:Array Bool):Prop:=∀(k:Nat) (o:Oper),ops[k]?=zh o->listed.getD k true=true->∀e∈o.after,Region.binds md e=true->listed.getD e.on true=true
theorem zi0{l:Array Bool}{i j:Nat}(h:l.getD i true=true):(l.setIfInBounds j true).getD i true=true:=by
 by_cases e:j=i
 ·subst e
  by_cases hj:j<l.size
  ·simp[hj]
  ·simp[hj]
 ·rw[getD_set_ne true e];exact h
theorem mz.start(md:Region.Mode)(ops:Array Oper):mz md ops (Array.replicate ops.size false):=λk o hk h=>by
 have hlt:=(Array.getElem?_eq_some_iff.1 hk).1;simp[hlt]at h
theorem zrb{listed:Array Bool}{j:Nat}{o:Oper}(ho:ops[j]?=zh o)(hj:j∈Region.ready md ops listed):∀e∈o.after,Region.binds md e=true->listed.getD e.on true=true:=λe he hb=>by
 obtain⟨_,o',FG,cj⟩:=mem_ready.1 hj;rw[ho]at FG;cases FG;have h1:=cj e he hb;rcases Nat.lt_or_ge e.on listed.size with h'|h'
 ·simp[h']at h1 ⊢;exact h1
 ·simp[Array.getElem?_eq_none h']at h1
theorem mz.set{listed:Array Bool}(h:mz md ops listed){j:Nat}(hj:j∈Region.ready md ops listed):mz md ops (listed.setIfInBounds j true):=λk o hk hl e he hb=>by
 refine zi0 ?_
 by_cases e1:j=k
 ·subst e1;exact zrb hk hj e he hb
 ·rw[getD_set_ne true e1]at hl;exact h k o hk hl e he hb
def UC(md:Region.Mode)(ops:Array Oper)(n i:Nat):Bool:=xx md ops n i || (List.range n).any λk=>xx md ops n k&&xx md ops k i
theorem zmb{n i:Nat}(h:UC md ops n i=true)(listed:Array Bool)(hc:mz md ops listed)(hr:n∈Region.ready md ops listed):listed.getD i true=true:=by
 unfold UC at h;rw[Bool.or_eq_true]at h;rcases h with h1|h1
 ·exact Mb h1 listed hr
 ·obtain⟨k,_,hk⟩:=List.any_eq_true.1 h1;rw[Bool.and_eq_true]at hk;obtain⟨h2,h3⟩:=hk;have hl:=Mb h2 listed hr;unfold xx at h3;split at h3
  ·rename_i o ho
   simp only[Array.any_eq_true,Bool.and_eq_true,beq_iff_eq]at h3;obtain⟨q,hq,hb,he⟩:=h3;rw[<-he];exact hc k o ho hl _ (Array.getElem_mem hq) hb
  ·cases h3
def zsA(md:Region.Mode)(ops:Array Oper)(n:Nat):Bool:=
 Region.noSelect ops&&(List.range n).all (UC md ops n)&&wQ md ops n n 0 (Array.replicate ops.size false)
theorem zfn{Q:Act->Prop}{i n:Nat}{oi:Oper}{v:zi}(hi:ops[i]?=zh oi)(lL:∀listed:Array Bool,mz md ops listed->n∈Region.ready md ops listed->listed.getD i true=true)(AH:∀(j:Nat) (o:Oper) cs b,ops[j]?=zh o->o.op≠.select cs b):
  ∀(fuel:Nat) (listed:Array Bool) (a:Act),mz md ops listed->
   (∀j oj,ops[j]?=zh oj->j≠i->listed.getD j true=false->(∀e∈oj.after,Region.binds md e=true->e.on≠i)->oi.apart ops oj=true)->
   i∈Region.ready md ops listed->YieldsIn P ops C oi v a->
   Ee P md ops C n Q fuel (listed.setIfInBounds i true) (a.put oi.dst v)->Ee P md ops C n Q (fuel+1) listed a:=by
 intro fuel
 induction fuel with
 |zero=>
  intro listed a bn _ hr hy H;refine⟨λh=>(by rw[h]at hr;cases hr),λj hj=>?_⟩
  by_cases fG:j=i
  ·subst fG;exact hy.qOp hi H
  ·have:=ready_mono hj fG;rw[H.1]at this;have e:j=n:=by simpa using this
   subst e;have h1:=lL _ bn hj;rw[(mem_ready.1 hr).1]at h1;cases h1
 |succ fuel ih=>
  intro listed a bn Ar hr hy H;refine⟨λh=>(by rw[h]at hr;cases hr),λj hj=>?_⟩
  by_cases fG:j=i
  ·subst fG;exact hy.qOp hi H
  ·have h1:=H.2 j (ready_mono hj fG);obtain⟨Ax,oj,qA,cj⟩:=mem_ready.1 hj;have IU:∀e∈oj.after,Region.binds md e=true->e.on≠i:=λe he hb pO=>by
    have h1:=cj e he hb;have h0:=(mem_ready.1 hr).1;rw[pO]at h1;rcases Nat.lt_or_ge i listed.size with h'|h'
    ·simp[h']at h0 h1;rw[h0]at h1;cases h1
    ·simp[Array.getElem?_eq_none h']at h1
   have h2:=qOp_put qA (Ar j oj qA fG Ax IU) (λcs b=>AH i oi cs b hi) (λcs b=>AH j oj cs b qA) hy h1;have ID:∀k ok,ops[k]?=zh ok->k≠i->(listed.setIfInBounds j true).getD k true=false->
     (∀e∈ok.after,Region.binds md e=true->e.on≠i)->oi.apart ops ok=true:=λk ok hk FC mQ hno=>by
    refine Ar k ok hk FC ?_ hno
    by_cases po:j=k
    ·subst po;exact Ax
    ·rw[getD_set_ne true po]at mQ;exact mQ
   refine qOp_mono (λa' h3=>ih (listed.setIfInBounds j true) a' (bn.set hj) ID (ready_mono hr (Ne.symm fG)) h3.1 ?_) h2;rw[Array.setIfInBounds_comm _ _ fG];exact h3.2
theorem zhH{Q:Act->Prop}{n:Nat}(hs:Region.noSelect ops=true)(hn:∀i,i<n->UC md ops n i=true):∀(l:List Oper) (k:Nat) (listed:Array Bool) (a:Act),mz md ops listed->(∀j,j<l.length->l[j]?=ops[k+j]?)->k+l.length=n->
  wQ md ops n l.length k listed=true->wpQuiet P ops C Q l a->Ee P md ops C n Q l.length listed a
 |[],_,_,_,_,_,_,hB,h=>by
  simp only[List.length_nil,wQ,Bool.and_eq_true,beq_iff_eq,List.isEmpty_iff]at hB;exact⟨hB.1,hB.2,h⟩
 |o::l,k,listed,a,bn,hl,k7,hB,h=>by
  have h0:ops[k]?=zh o:=by simpa using (hl 0 (by simp)).symm
  simp only[List.length_cons,wQ,Bool.and_eq_true]at hB;obtain⟨⟨hr,hf⟩,Aa⟩:=hB;have hst:qOp P ops C k (wpQuiet P ops C Q l) a:=by unfold qOp;simp only[h0];exact h
  obtain⟨v,hy,hK⟩:=yieldsIn_of_qOp h0 hst;simp only[List.length_cons]at k7;have di:k∈Region.ready md ops listed:=by simpa using hr
  exact zfn h0 (λL hc AC=>zmb (hn k (by omega)) L hc AC) (Region.noSelect_spec hs) l.length listed a bn (Region.free_spec h0 hf) di hy
   (zhH hs hn l (k+1) _ _ (bn.set di) (λj hj=>by have:=hl (j+1) (by simp;omega);simpa [Nat.add_assoc,Nat.add_comm 1 j]using this) (by omega) Aa hK)
theorem zhK{id:Nat}{Q:Exit->Act->za->Prop}{a:Act}{w:za}{all l:List Oper}{o:Oper}(hm:P.follows .mixedOrders=true)(hB:zsA .any all.toArray l.length=true)(cj:all=l++[o])(hg:o.guard=zn)
  (h:wpQuiet P all.toArray (λw'=>∃n,w'=w.drewN n) (λa'=>∀w',(∃n,w'=w.drewN n)->∀K:Act->za->Prop,(∀a w,Q .normal a w->K a w)->o.wp P a' w' K Q) l a):(Code.region id all.toArray true).wp P Q a w:=by
 simp only[zsA,Bool.and_eq_true,List.all_eq_true,List.mem_range]at hB;have hsz:all.toArray.size=l.length+1:=by simp[cj]
 have hlen:all.toArray[l.length]?=zh o:=by simp[cj]
 refine wp_region_any hm ?_;rw[hsz];refine TA (C:=λw'=>∃n,w'=w.drewN n) (n:=l.length) (Q:=λa'=>∀w',(∃n,w'=w.drewN n)->∀K:Act->za->Prop,(∀a w,Q .normal a w->K a w)->o.wp P a' w' K Q) ?_ l.length _ a _ ⟨1,rfl⟩ ?_
 ·intro a' w' hw' hq;unfold wpOp;rw[hlen];simp only[Region.wanted,hg];exact .inl (hq w' hw' _ λ_ _ h=>h)
 ·rw[<-hsz];exact zhH hB.1.1 hB.1.2 l 0 _ a (mz.start _ _) (λj hj=>by simp[cj,List.getElem?_append_left hj]) (by simp) hB.2 h
theorem zdn(n:Nat){id:Nat}{Q:Exit->Act->za->Prop}{a:Act}{w:za}{all:List Oper}{o:Oper}(hm:P.follows .mixedOrders=true)(hB:zsA .any all.toArray n=true)(hl:all.length=n+1)(ho:all[n]?=zh o)(hg:o.guard=zn)
  (h:∀l,l=all.take n->wpQuiet P all.toArray (λw'=>∃n,w'=w.drewN n) (λa'=>∀w',(∃n,w'=w.drewN n)->∀K:Act->za->Prop,(∀a w,Q .normal a w->K a w)->o.wp P a' w' K Q) l a):(Code.region id all.toArray true).wp P Q a w:=by
 refine zhK (l:=all.take n) (o:=o) hm (by rw[List.length_take,hl,Nat.min_eq_left (by omega)];exact hB) ?_ hg (h _ rfl);apply List.ext_getElem?;intro j
 by_cases hj:j<n
 ·rw[List.getElem?_append_left (by rw[List.length_take];omega),List.getElem?_take,if_pos hj]
 ·rw[List.getElem?_append_right (by rw[List.length_take];omega),List.length_take,hl,Nat.min_eq_left (by omega)]
  by_cases e:j=n
  ·subst e;simp[ho]
  ·rw[List.getElem?_eq_none (by omega),List.getElem?_eq_none (by simp;omega)]
end
end
section
open Go
section
variable {P:Program} {ops:Array Oper} {md:Region.Mode} {C:za->Prop}
def xr(md:Region.Mode)(ops:Array Oper):Nat->Nat->Array Bool->Bool
 |0,_,listed=>(Region.ready md ops listed).isEmpty
 |f+1,k,listed=>(Region.ready md ops listed == [k])&&xr md ops f (k+1) (listed.setIfInBounds k true)
theorem zj2{f k:Nat}{listed:Array Bool}(h:xr md ops f k listed=true):∀j∈Region.ready md ops listed,j=k/\0<f:=λj hj=>by
 cases f with
 |zero=>
  simp only[xr,List.isEmpty_iff]at h;rw[h]at hj;cases hj
 |succ f=>
  simp only[xr,Bool.and_eq_true,beq_iff_eq]at h;rw[h.1]at hj;exact⟨by simpa using hj,by omega⟩
theorem zf1{Q:Exit->Act->za->Prop}:∀(l:List Oper) (k:Nat) (listed:Array Bool) (a:Act) (w:za),(∀j,j<l.length->l[j]?=ops[k+j]?)->xr md ops l.length k listed=true->wpList P ops Q l a w->wpAny P md ops Q l.length listed a w
 |[],_,_,_,_,_,hB,h=>by
  simp only[List.length_nil,xr,List.isEmpty_iff]at hB;exact⟨hB,h⟩
 |o::l,k,listed,a,w,hl,hB,h=>by
  have h0:ops[k]?=zh o:=by simpa using (hl 0 (by simp)).symm
  simp only[List.length_cons,xr,Bool.and_eq_true,beq_iff_eq]at hB;have ih:=λa w h=>zf1 (Q:=Q) l (k+1) (listed.setIfInBounds k true) a w (λj hj=>by have:=hl (j+1) (by simp;omega);simpa [Nat.add_assoc,Nat.add_comm 1 j]using this) hB.2 h
  refine⟨λe=>absurd e (by rw[hB.1];simp),λi hi=>?_⟩;rw[hB.1]at hi;have e:i=k:=by simpa using hi
  subst e;unfold wpOp;simp only[h0];unfold wpList at h
  by_cases hw:Region.wanted o (yielded ops a.tmps)=true
  ·rw[if_pos hw]at h ⊢;rcases h with h|h
   ·exact .inl (Oper.wp_mono (λa w h=>ih a w h) h)
   ·exact .inr h
  ·rw[if_neg hw]at h ⊢;exact ih _ _ h
def Qo(P:Program)(md:Region.Mode)(ops:Array Oper)(C:za->Prop)(n:Nat)(Q:Act->Prop):Nat->Array Bool->Act->Prop
 |0,listed,a=>xr md ops (ops.size-n) n listed=true/\Q a
 |fuel+1,listed,a=>Region.ready md ops listed≠[]/\∀i∈Region.ready md ops listed,qOp P ops C i (Qo P md ops C n Q fuel (listed.setIfInBounds i true)) a
theorem zfo{Q:Act->Prop}{Q':Exit->Act->za->Prop}{n:Nat}{l:List Oper}(hl:∀j,j<l.length->l[j]?=ops[n+j]?)(hsz:ops.size-n=l.length)(hQ:∀a w,C w->Q a->wpList P ops Q' l a w):
  ∀(fuel:Nat) (listed:Array Bool) (a:Act) (w:za),C w->Qo P md ops C n Q fuel listed a->wpAny P md ops Q' (fuel+l.length) listed a w
 |0,listed,a,w,hw,h=>by
  rw[Nat.zero_add];exact zf1 l n listed a w hl (by rw[<-hsz];exact h.1) (hQ a w hw h.2)
 |fuel+1,listed,a,w,hw,h=>by
  rw[show fuel+1+l.length=fuel+l.length+1 by omega];exact⟨λh0=>absurd h0 h.1,λi hi=>wpOp_of_qOp hw (λa' w' hw'=>zfo hl hsz hQ fuel _ a' w' hw') (h.2 i hi)⟩
theorem zk4{Q:Act->Prop}{i n:Nat}{oi:Oper}{v:zi}(hi:ops[i]?=zh oi)(lL:∀listed:Array Bool,mz md ops listed->n∈Region.ready md ops listed->listed.getD i true=true)(AH:∀(j:Nat) (o:Oper) cs b,ops[j]?=zh o->o.op≠.select cs b):
  ∀(fuel:Nat) (listed:Array Bool) (a:Act),mz md ops listed->
   (∀j oj,ops[j]?=zh oj->j≠i->listed.getD j true=false->(∀e∈oj.after,Region.binds md e=true->e.on≠i)->oi.apart ops oj=true)->
   i∈Region.ready md ops listed->YieldsIn P ops C oi v a->
   Qo P md ops C n Q fuel (listed.setIfInBounds i true) (a.put oi.dst v)->Qo P md ops C n Q (fuel+1) listed a:=by
 intro fuel
 induction fuel with
 |zero=>
  intro listed a bn _ hr hy H;refine⟨λh=>(by rw[h]at hr;cases hr),λj hj=>?_⟩
  by_cases fG:j=i
  ·subst fG;exact hy.qOp hi H
  ·have h2:=(zj2 H.1 j (ready_mono hj fG)).1;subst h2;have h1:=lL _ bn hj;rw[(mem_ready.1 hr).1]at h1;cases h1
 |succ fuel ih=>
  intro listed a bn Ar hr hy H;refine⟨λh=>(by rw[h]at hr;cases hr),λj hj=>?_⟩
  by_cases fG:j=i
  ·subst fG;exact hy.qOp hi H
  ·have h1:=H.2 j (ready_mono hj fG);obtain⟨Ax,oj,qA,cj⟩:=mem_ready.1 hj;have IU:∀e∈oj.after,Region.binds md e=true->e.on≠i:=λe he hb pO=>by
    have h1:=cj e he hb;have h0:=(mem_ready.1 hr).1;rw[pO]at h1;rcases Nat.lt_or_ge i listed.size with h'|h'
    ·simp[h']at h0 h1;rw[h0]at h1;cases h1
    ·simp[Array.getElem?_eq_none h']at h1
   have h2:=qOp_put qA (Ar j oj qA fG Ax IU) (λcs b=>AH i oi cs b hi) (λcs b=>AH j oj cs b qA) hy h1;have ID:∀k ok,ops[k]?=zh ok->k≠i->(listed.setIfInBounds j true).getD k true=false->
     (∀e∈ok.after,Region.binds md e=true->e.on≠i)->oi.apart ops ok=true:=λk ok hk FC mQ hno=>by
    refine Ar k ok hk FC ?_ hno
    by_cases po:j=k
    ·subst po;exact Ax
    ·rw[getD_set_ne true po]at mQ;exact mQ
   refine qOp_mono (λa' h3=>ih (listed.setIfInBounds j true) a' (bn.set hj) ID (ready_mono hr (Ne.symm fG)) h3.1 ?_) h2;rw[Array.setIfInBounds_comm _ _ fG];exact h3.2
def sX(md:Region.Mode)(ops:Array Oper):Nat->Nat->Nat->Bool
 |0,n,i=>xx md ops n i
 |f+1,n,i=>xx md ops n i || (List.range n).any λk=>xx md ops n k&&sX md ops f k i
theorem zp6{n i:Nat}(h:xx md ops n i=true):∃o,ops[n]?=zh o/\∃e∈o.after,Region.binds md e=true/\e.on=i:=by
 unfold xx at h;split at h
 ·rename_i o ho
  simp only[Array.any_eq_true,Bool.and_eq_true,beq_iff_eq]at h;obtain⟨q,hq,hb,he⟩:=h;exact⟨o,ho,_,Array.getElem_mem hq,hb,he⟩
 ·cases h
theorem LU{listed:Array Bool}(hc:mz md ops listed):∀(f n i:Nat),listed.getD n true=true->sX md ops f n i=true->listed.getD i true=true
 |0,n,i,hl,h=>by
  obtain⟨o,ho,e,he,hb,e2⟩:=zp6 h;rw[<-e2];exact hc n o ho hl e he hb
 |f+1,n,i,hl,h=>by
  unfold sX at h;rw[Bool.or_eq_true]at h;rcases h with h|h
  ·exact LU hc 0 n i hl h
  ·obtain⟨k,_,hk⟩:=List.any_eq_true.1 h;rw[Bool.and_eq_true]at hk;exact LU hc f k i (LU hc 0 n k hl hk.1) hk.2
theorem zhD{f n i:Nat}(h:sX md ops f n i=true)(listed:Array Bool)(hc:mz md ops listed)(hr:n∈Region.ready md ops listed):listed.getD i true=true:=by
 cases f with
 |zero=>exact Mb h listed hr
 |succ f=>
  unfold sX at h;rw[Bool.or_eq_true]at h;rcases h with h|h
  ·exact Mb h listed hr
  ·obtain⟨k,_,hk⟩:=List.any_eq_true.1 h;rw[Bool.and_eq_true]at hk;exact LU hc f k i (Mb hk.1 listed hr) hk.2
def Th(md:Region.Mode)(ops:Array Oper)(n:Nat):Nat->Nat->Array Bool->Bool
 |0,_,listed=>xr md ops (ops.size-n) n listed
 |fuel+1,k,listed=>(Region.ready md ops listed).contains k&&Region.free md ops listed k&&Th md ops n fuel (k+1) (listed.setIfInBounds k true)
def preB(md:Region.Mode)(ops:Array Oper)(n:Nat):Bool:=
 Region.noSelect ops&&(List.range n).all (λi=>decide (ops.size<=n) || sX md ops 6 n i)&&Th md ops n n 0 (Array.replicate ops.size false)
theorem ziO{Q:Act->Prop}{n:Nat}(hs:Region.noSelect ops=true)(hn:∀i,i<n->(decide (ops.size<=n) || sX md ops 6 n i)=true):∀(l:List Oper) (k:Nat) (listed:Array Bool) (a:Act),mz md ops listed->(∀j,j<l.length->l[j]?=ops[k+j]?)->k+l.length=n->
  Th md ops n l.length k listed=true->wpQuiet P ops C Q l a->Qo P md ops C n Q l.length listed a
 |[],_,_,_,_,_,_,hB,h=>⟨hB,h⟩
 |o::l,k,listed,a,bn,hl,k7,hB,h=>by
  have h0:ops[k]?=zh o:=by simpa using (hl 0 (by simp)).symm
  simp only[List.length_cons,Th,Bool.and_eq_true]at hB;obtain⟨⟨hr,hf⟩,Aa⟩:=hB;have hst:qOp P ops C k (wpQuiet P ops C Q l) a:=by unfold qOp;simp only[h0];exact h
  obtain⟨v,hy,hK⟩:=yieldsIn_of_qOp h0 hst;simp only[List.length_cons]at k7;have di:k∈Region.ready md ops listed:=by simpa using hr
  exact zk4 h0 (λL hc AC=>by
    have h1:=hn k (by omega);rw[Bool.or_eq_true]at h1;rcases h1 with h1|h1
    ·have h2:=of_decide_eq_true h1;obtain⟨_,o',FG,_⟩:=mem_ready.1 AC;have:=(Array.getElem?_eq_some_iff.1 FG).1;omega
    ·exact zhD h1 L hc AC) (Region.noSelect_spec hs) l.length listed a bn (Region.free_spec h0 hf) di hy
   (ziO hs hn l (k+1) _ _ (bn.set di) (λj hj=>by have:=hl (j+1) (by simp;omega);simpa [Nat.add_assoc,Nat.add_comm 1 j]using this) (by omega) Aa hK)
theorem zk6(n:Nat){Q:Exit->Act->za->Prop}{a:Act}{w:za}{all:List Oper}(C:za->Prop)(hC:C w)(hn:n<=all.length)(hB:preB md all.toArray n=true)
  (h:∀l,l=all.take n->wpQuiet P all.toArray C (λa'=>∀w',C w'->∀r,r=all.drop n->wpList P all.toArray Q r a' w') l a):wpAny P md all.toArray Q all.length (Array.replicate all.length false) a w:=by
 simp only[preB,Bool.and_eq_true,List.all_eq_true,List.mem_range]at hB;have hlt:(all.take n).length=n:=by rw[List.length_take];omega
 have Dq:(all.drop n).length=all.length-n:=by rw[List.length_drop]
 have h1:=ziO (P:=P) (C:=C) hB.1.1 hB.1.2 (all.take n) 0 (Array.replicate all.toArray.size false) a (mz.start _ _) (λj hj=>by rw[hlt]at hj;simp[hj]) (by omega) (by rw[hlt];exact hB.2) (h _ rfl);have h2:=zfo (md:=md) (C:=C) (Q':=Q) (n:=n) (l:=all.drop n) (λj _=>by simp[List.getElem?_drop]) (by simp) (λa w hw hq=>hq w hw _ rfl) (all.take n).length _ a w hC h1;rw[hlt,Dq,show n+(all.length-n)=all.length by omega]at h2
 simpa using h2
theorem Jo(n:Nat){id:Nat}{Q:Exit->Act->za->Prop}{a:Act}{w:za}{all:List Oper}(C:za->Prop)(hm:P.follows .mixedOrders=true)(hC:C w.drew)(hn:n<=all.length)(hB:preB .any all.toArray n=true)
  (h:∀l,l=all.take n->wpQuiet P all.toArray C (λa'=>∀w',C w'->∀r,r=all.drop n->wpList P all.toArray Q r a' w') l a):(Code.region id all.toArray true).wp P Q a w:=by
 refine wp_region_any hm ?_;have:=zk6 (md:=.any) n C hC hn hB h
 simpa using this
theorem znR{o:Oper}{a:Act}{w:za}{K:Act->za->Prop}{Q:Exit->Act->za->Prop}(l n:Nat)(hd:∀c,o.op≠.defer c)(h:o.wp P a w K Q):o.wpIn (Fence.wide.inRound l) n P a w K Q:=by
 refine⟨λ_ _=>trivial,?_⟩;rw[Oper.semAt_eq _ _ _ hd];unfold Oper.wp at h;generalize (execOp a.eval o).run P w=r at *;have hdp:(Fence.wide.inRound l).depth.isSome=true->1<=n:=λe=>by cases e
 cases r with
 |ok nx w'=>
  cases nx with
  |value v=>exact h
  |skip=>exact h
  |defer d=>exact h
  |enter f args=>exact⟨hdp,CallsIn.inRound l (callsIn_wide.2 h)⟩
  |row row args=>exact⟨hdp,λc cs _=>by
    obtain⟨v,w2,h1,h2⟩:=h c cs;exact⟨v,w2,h1,stepsIn_wide.2 h2⟩⟩
  |round l f tmps assign body=>exact h.elim
  |_=>exact h.elim
 |halt hh w'=>
  cases hh with
  |panic v=>exact h
  |_=>exact h.elim
theorem Tz{Q:Exit->Act->za->Prop}(l n:Nat)(hQ:¬LetsOut Q)(hd:∀(j:Nat) (o:Oper),ops[j]?=zh o->∀c,o.op≠.defer c):∀(fuel:Nat) (listed:Array Bool) (a:Act) (w:za),wpAny P md ops Q fuel listed a w->wpAnyIn (Fence.wide.inRound l) n P md ops Q fuel listed a w
 |0,_,_,_,h=>h
 |fuel+1,listed,a,w,h=>by
  refine⟨h.1,λi hi=>?_⟩;have h1:=h.2 i hi;unfold wpOp at h1;unfold wpOpIn;split
  ·rename_i e
   simp only[e]at h1;exact Tz l n hQ hd fuel _ _ _ h1
  ·rename_i o e
   simp only[e]at h1
   by_cases hw:Region.wanted o (yielded ops a.tmps)=true
   ·rw[if_pos hw]at h1 ⊢;rcases h1 with h1|h1
    ·exact znR l n (hd i o e) (Oper.wp_mono (λa w h=>Tz l n hQ hd fuel _ a w h) h1)
    ·exact absurd h1.2 hQ
   ·rw[if_neg hw]at h1 ⊢;exact⟨λ_ _=>trivial,Tz l n hQ hd fuel _ _ _ h1⟩
def zo9(ops:List Oper):Bool:=ops.all λo=>match o.op with | .defer _=>false|_=>true
theorem zks{all:List Oper}(h:zo9 all=true)(j:Nat)(o:Oper)(ho:all.toArray[j]?=zh o)(c:_):o.op≠.defer c:=λe=>by
 have hm:o∈all:=by
  rw[List.getElem?_toArray]at ho;exact List.mem_of_getElem? ho
 have:=List.all_eq_true.1 h o hm;rw[e]at this;cases this
theorem PE(n:Nat){id l nn:Nat}{Q:Exit->Act->za->Prop}{a:Act}{w:za}{all:List Oper}(C:za->Prop)(hm:P.follows .mixedOrders=true)(hC:C w.drew)(hQ:¬LetsOut Q)(hn:n<=all.length)(hB:preB .any all.toArray n=true)(hD:zo9 all=true)
  (h:∀l,l=all.take n->wpQuiet P all.toArray C (λa'=>∀w',C w'->∀r,r=all.drop n->wpList P all.toArray Q r a' w') l a):(Code.region id all.toArray true).wpIn (Fence.wide.inRound l) nn P Q a w:=by
 refine wpIn_region_any hm ?_;have:=Tz l nn hQ (zks hD) _ _ _ _ (zk6 (md:=.any) n C hC hn hB h)
 simpa using this
end
end
open Go
section
variable {P:Program} {ops:Array Oper} {md:Region.Mode} {C:za->Prop} {Q:Exit->Act->za->Prop}
def sY(P:Program)(ops:Array Oper)(C:za->Prop)(o:Oper)(v:zi)(a:Act):Prop:=
 (Region.wanted o (yielded ops a.tmps)=true/\∀w,C w->(execOp a.eval o).run P w=.ok (.value v) w)\/(Region.wanted o (yielded ops a.tmps)=false/\v=undef)
theorem sY.of_same{o:Oper}{v:zi}{a a':Act}(hy:sY P ops C o v a)(he:execOp a'.eval o=execOp a.eval o)(hw:Region.wanted o (yielded ops a'.tmps)=Region.wanted o (yielded ops a.tmps)):sY P ops C o v a':=by
 unfold sY at *;rw[he,hw];exact hy
theorem sY.zws{i:Nat}{o:Oper}{v:zi}{a:Act}(hi:ops[i]?=zh o)(hy:sY P ops C o v a){K:Act->za->Prop}{w:za}(hC:C w)(h:K (a.put o.dst v) w):wpOp P ops Q i K a w:=by
 unfold Go.wpOp;simp only[hi];rcases hy with ⟨hw,hv⟩|⟨hw,rfl⟩
 ·simp only[hw,if_true,Oper.wp,hv w hC,Oper.upon];exact .inl h
 ·simp only[hw,Bool.false_eq_true,if_false];exact h
theorem zqc{j:Nat}{oi oj:Oper}{v:zi}(hj:ops[j]?=zh oj)(Dh:oi.apart ops oj=true)(FJ:∀cs b,oi.op≠.select cs b)(hsj:∀cs b,oj.op≠.select cs b)
  (hQ:∀c a w,Q (.panic c) (a.put oi.dst v) w->Q (.panic c) a w) {K:Act->za->Prop} {a:Act} {w:za} (hy:sY P ops C oi v a) (h:wpOp P ops Q j K (a.put oi.dst v) w):
  wpOp P ops Q j (λa' w'=>sY P ops C oi v a'/\K (a'.put oi.dst v) w') a w:=by
 obtain⟨h1,h2,h3⟩:=Oper.apart_spec Dh;have keep:∀(a:Act),sY P ops C oi v a->∀u,sY P ops C oi v (a.put oj.dst u):=λa hy u=>hy.of_same (execOp_put oi FJ a oj.dst u h3) (wanted_put oi a oj.dst u h3)
 unfold wpOp at *;simp only[hj]at *;rw[wanted_put oj a oi.dst v h1]at h
 by_cases hw:Region.wanted oj (yielded ops a.tmps)=true
 ·simp only[hw,if_true]at h ⊢;rcases h with h|⟨zwI,zAD⟩
  case inr=>exact .inr ⟨by unfold Oper.asks at *;rw[execOp_put oj hsj a oi.dst v h1]at zwI;exact zwI,zAD⟩
  refine .inl ?_;unfold Oper.wp at *;rw[execOp_put oj hsj a oi.dst v h1]at h;generalize (execOp a.eval oj).run P w=r at *;cases r with
  |ok n w'=>
   cases n<;>simp only[Oper.upon]at h ⊢
   case value u=>exact⟨keep a hy u,by rw[<-Act.put_comm a v u h2];exact h⟩
   case skip=>exact⟨keep a hy _,by rw[<-Act.put_comm a v undef h2];exact h⟩
   case defer d=>
    have hyd:sY P ops C oi v {a with defers:=d::a.defers}:=hy.of_same rfl rfl;refine⟨keep _ hyd _,?_⟩;rw[<-Act.put_comm _ v undef h2,<-Act.put_defers];exact h
   case enter f args=>
    refine Calls.mono h λe w'' he=>?_
    cases e with
    |returned u=>exact⟨keep a hy u,by rw[<-Act.put_comm a v u h2];exact he⟩
    |panicked c=>exact hQ _ _ _ he
    |outgrown=>exact he
   case row row args=>exact Rows.mono h λu w'' he=>⟨keep a hy u,by rw[<-Act.put_comm a v u h2];exact he⟩
  |halt x w'=>
   cases x<;>simp only[Oper.upon]at h ⊢
   case panic u=>exact hQ _ _ _ h
 ·have hw':Region.wanted oj (yielded ops a.tmps)=false:=by simpa using hw
  simp only[hw',Bool.false_eq_true,if_false]at h ⊢;exact⟨keep a hy _,by rw[<-Act.put_comm a v undef h2];exact h⟩
def Cn(P:Program)(md:Region.Mode)(ops:Array Oper)(C:za->Prop)(t:Nat)(Q:Exit->Act->za->Prop):Nat->Array Bool->Act->za->Prop
 |0,listed,a,w=>Region.ready md ops listed=[]/\Q .normal a w
 |fuel+1,listed,a,w=>(Region.ready md ops listed=[]->Q .normal a w)/\
  ∀i∈Region.ready md ops listed,wpOp P ops Q i (λa' w'=>((listed.setIfInBounds i true).getD t true=false->C w')/\Cn P md ops C t Q fuel (listed.setIfInBounds i true) a' w') a w
theorem zfL{t:Nat}:∀(fuel:Nat) (listed:Array Bool) (a:Act) (w:za),Cn P md ops C t Q fuel listed a w->wpAny P md ops Q fuel listed a w
 |0,_,_,_,h=>h
 |fuel+1,_,_,_,h=>⟨h.1,λi hi=>wpOp_mono (λa w k=>zfL fuel _ a w k.2) (h.2 i hi)⟩
theorem DV{l:Array Bool}{i j:Nat}(h:i≠j):(l.setIfInBounds i true).getD j true=l.getD j true:=getD_set_ne true h
theorem zhG{i t:Nat}{oi:Oper}{v:zi}(hi:ops[i]?=zh oi)(LC:t≠i)(lL:∀listed:Array Bool,mz md ops listed->listed.getD t true=true->listed.getD i true=true)
  (AH:∀(j:Nat) (o:Oper) cs b,ops[j]?=zh o->o.op≠.select cs b) (hQ:∀c a a' w,Q (.panic c) a w->Q (.panic c) a' w):
  ∀(fuel:Nat) (listed:Array Bool) (a:Act) (w:za),mz md ops listed->
   (∀j oj,ops[j]?=zh oj->j≠i->listed.getD j true=false->(∀e∈oj.after,Region.binds md e=true->e.on≠i)->oi.apart ops oj=true)->
   i∈Region.ready md ops listed->sY P ops C oi v a->C w->
   Cn P md ops C t Q fuel (listed.setIfInBounds i true) (a.put oi.dst v) w->Cn P md ops C t Q (fuel+1) listed a w:=by
 intro fuel
 induction fuel with
 |zero=>
  intro listed a w bn _ hr hy hC H;refine⟨λh=>(by rw[h]at hr;cases hr),λj hj=>?_⟩
  by_cases fG:j=i
  ·subst fG;exact hy.zws hi hC ⟨λ_=>hC,H⟩
  ·have:=ready_mono hj fG;rw[H.1]at this;cases this
 |succ fuel ih=>
  intro listed a w bn Ar hr hy hC H;refine⟨λh=>(by rw[h]at hr;cases hr),λj hj=>?_⟩
  by_cases fG:j=i
  ·subst fG;exact hy.zws hi hC ⟨λ_=>hC,H⟩
  ·have h1:=H.2 j (ready_mono hj fG);obtain⟨Ax,oj,qA,cj⟩:=mem_ready.1 hj;have YJ:=(mem_ready.1 hr).1;have IU:∀e∈oj.after,Region.binds md e=true->e.on≠i:=λe he hb pO=>by
    have h1:=cj e he hb;rw[pO]at h1;rcases Nat.lt_or_ge i listed.size with h'|h'
    ·simp[h']at YJ h1;rw[YJ]at h1;cases h1
    ·simp[Array.getElem?_eq_none h']at h1
   have h2:=zqc qA (Ar j oj qA fG Ax IU) (λcs b=>AH i oi cs b hi) (λcs b=>AH j oj cs b qA) (λc a w h=>hQ c _ _ w h) hy h1;have ID:∀k ok,ops[k]?=zh ok->k≠i->(listed.setIfInBounds j true).getD k true=false->(∀e∈ok.after,Region.binds md e=true->e.on≠i)->oi.apart ops ok=true:=λk ok hk FC mQ hno=>by
    refine Ar k ok hk FC ?_ hno
    by_cases po:j=k
    ·subst po;exact Ax
    ·rw[DV po]at mQ;exact mQ
   have zwZ:=bn.set hj;have htj:(listed.setIfInBounds j true).getD t true=false:=by
    cases hb:(listed.setIfInBounds j true).getD t true
    ·rfl
    ·have h3:=lL _ zwZ hb;rw[DV fG,YJ]at h3;cases h3
   refine wpOp_mono (λa' w' h3=>?_) h2;obtain⟨hy',hC',zAR⟩:=h3;have hCw:C w':=hC' (by rw[Array.setIfInBounds_comm _ _ (Ne.symm fG),DV (Ne.symm LC)];exact htj);exact⟨λ_=>hCw,ih _ a' w' zwZ ID (ready_mono hr (Ne.symm fG)) hy' hCw (by rw[Array.setIfInBounds_comm _ _ fG];exact zAR)⟩
def xu(P:Program)(ops:Array Oper)(C:za->Prop)(t:Nat)(Q:Exit->Act->za->Prop):Nat->List Oper->Act->za->Prop
 |_,[],a,w=>Q .normal a w
 |k,o::rest,a,w=>if Region.wanted o (yielded ops a.tmps) then o.wp P a w (λa' w'=>(k<t->C w')/\xu P ops C t Q (k+1) rest a' w') Q else (k<t->C w)/\xu P ops C t Q (k+1) rest (a.put o.dst undef) w
theorem zfl{t:Nat}:∀(l:List Oper) (k:Nat) (listed:Array Bool) (a:Act) (w:za),(∀j,j<l.length->l[j]?=ops[k+j]?)->(∀j,j<k->listed.getD j true=true)->(∀j,k<=j->j<k+l.length->listed.getD j true=false)->xr md ops l.length k listed=true->t<k+l.length->xu P ops C t Q k l a w->Cn P md ops C t Q l.length listed a w
 |[],_,_,_,_,_,_,_,hB,_,h=>by
  simp only[List.length_nil,xr,List.isEmpty_iff]at hB;exact⟨hB,h⟩
 |o::l,k,listed,a,w,hl,oC,Fz,hB,ht,h=>by
  have h0:ops[k]?=zh o:=by simpa using (hl 0 (by simp)).symm
  simp only[List.length_cons,xr,Bool.and_eq_true,beq_iff_eq]at hB;simp only[List.length_cons]at ht Fz;have SM:k<listed.size:=by
   rcases Nat.lt_or_ge k listed.size with h'|h'
   ·exact h'
   ·have:=Fz k (Nat.le_refl _) (by omega);simp[Array.getElem?_eq_none h']at this
  have ih:=λa w h=>zfl (t:=t) l (k+1) (listed.setIfInBounds k true) a w (λj hj=>by have:=hl (j+1) (by simp;omega);simpa [Nat.add_assoc,Nat.add_comm 1 j]using this)
   (λj hj=>by
    by_cases e:k=j
    ·subst e;simp[SM]
    ·rw[DV e];exact oC j (by omega))
   (λj h1 h2=>by rw[DV (by omega)];exact Fz j (by omega) (by omega)) hB.2 (by omega) h
  have OQ:∀{p:Prop},(k<t->p)->(listed.setIfInBounds k true).getD t true=false->p:=λhp hf=>hp (by
   rcases Nat.lt_trichotomy k t with h1|h1|h1
   ·exact h1
   ·subst h1;simp[SM]at hf
   ·rw[DV (by omega),oC t (by omega)]at hf;cases hf)
  refine⟨λe=>absurd e (by rw[hB.1];simp),λi hi=>?_⟩;rw[hB.1]at hi;have e:i=k:=by simpa using hi
  subst e;unfold wpOp;simp only[h0];unfold xu at h
  by_cases hw:Region.wanted o (yielded ops a.tmps)=true
  ·rw[if_pos hw]at h ⊢;exact .inl (Oper.wp_mono (λa w h=>⟨OQ h.1,ih a w h.2⟩) h)
  ·rw[if_neg hw]at h ⊢;exact⟨OQ h.1,ih _ _ h.2⟩
def Qv(o:Oper):Bool:=match o.op with
 |.move _=>true
 |.assign _=>true
 |.load _ _=>true
 |.fieldAddr _ _ _=>true
 |.indexAddr _ _ _=>true
 |.binOp _ _ _ _ _=>true
 |_=>false
theorem zkM{s:Sem zi}{w w':za}{n:Next}(h:(do pure (Next.value (<-s)):Sem Next).run P w=.ok n w'):∃u,n=.value u:=by
 simp only[Sem.run_bind,Sem.run_pure]at h;cases hr:s.run P w with
 |ok u w1=>rw[hr]at h;simp only[Result.andThen]at h;injection h with h1;exact⟨u,h1.symm⟩
 |halt x w1=>rw[hr]at h;simp[Result.andThen]at h
theorem znT{o:Oper}(h:Qv o=true){ρ:Operand->zi}{w w':za}{n:Next}(hr:(execOp ρ o).run P w=.ok n w'):∃u,n=.value u:=by
 obtain⟨dst,op,type,pos,after,guard⟩:=o;cases op<;>simp only[Qv,Bool.false_eq_true]at h
 all_goals (simp only[execOp]at hr)
 case move x=>rw[Sem.run_pure]at hr;injection hr with h1;exact⟨_,h1.symm⟩
 case assign x=>rw[Sem.run_pure]at hr;injection hr with h1;exact⟨_,h1.symm⟩
 all_goals exact zkM hr
theorem zjp{o:Oper}{a:Act}{K:Act->Prop}(hb:Qv o=true)(hw:Region.wanted o (yielded ops a.tmps)=true)(h:o.quiet P a C K):∃v,sY P ops C o v a/\K (a.put o.dst v):=by
 obtain⟨v,h1,h2⟩:=h;refine⟨v,.inl ⟨hw,λw hC=>?_⟩,h2⟩;have h3:=h1 w hC;unfold Oper.quietAt at h3;cases hr:(execOp a.eval o).run P w with
 |ok n w'=>
  obtain⟨u,rfl⟩:=znT hb hr;rw[hr]at h3;obtain⟨e1,e2⟩:=h3;rw[e1,e2]
 |halt x w'=>rw[hr]at h3;exact h3.elim
def Pd(md:Region.Mode)(ops:Array Oper)(n:Nat):Nat->Nat->Array Bool->Bool
 |0,_,listed=>xr md ops (ops.size-n) n listed
 |fuel+1,k,listed=>(Region.ready md ops listed).contains k&&Region.free md ops listed k&&Pd md ops n fuel (k+1) (listed.setIfInBounds k true)
def zsY(md:Region.Mode)(all:List Oper)(n t:Nat):Bool:=
 Region.noSelect all.toArray&&(List.range n).all (λi=>sX md all.toArray 8 t i)&&(all.take n).all Qv&&Pd md all.toArray n n 0 (Array.replicate all.length false)&&decide (n<=t)&&decide (t<all.length)
theorem ziM{n t:Nat}{all:List Oper}(hs:Region.noSelect all.toArray=true)(hn:∀i,i<n->sX md all.toArray 8 t i=true)(OR:n<=t)(yO:t<all.length)(hQ:∀c a a' w,Q (.panic c) a w->Q (.panic c) a' w):
  ∀(l:List Oper) (k:Nat) (listed:Array Bool) (a:Act) (w:za),mz md all.toArray listed->(∀j,j<l.length->l[j]?=all.toArray[k+j]?)->k+l.length=n->(∀j,j<k->listed.getD j true=true)->(∀j,k<=j->j<all.length->listed.getD j true=false)->(∀o∈l,Qv o=true)->
   Pd md all.toArray n l.length k listed=true->C w->wpQuiet P all.toArray C (λa'=>∀w',C w'->∀r,r=all.drop n->xu P all.toArray C t Q n r a' w') l a->Cn P md all.toArray C t Q (l.length+(all.length-n)) listed a w
 |[],k,listed,a,w,bn,hl,k7,oC,Fz,_,hB,hC,h=>by
  simp only[List.length_nil,Nat.add_zero]at k7;subst k7;have Dq:(all.drop k).length=all.length-k:=by rw[List.length_drop]
  have:=zfl (P:=P) (C:=C) (Q:=Q) (t:=t) (all.drop k) k listed a w (λj _=>by simp[List.getElem?_drop]) oC (λj h1 h2=>Fz j h1 (by rw[Dq]at h2;omega)) (by rw[Dq];simpa [Pd]using hB) (by rw[Dq];omega) (h w hC _ rfl);rw[Dq]at this
  simpa using this
 |o::l,k,listed,a,w,bn,hl,k7,oC,Fz,yL,hB,hC,h=>by
  have h0:all.toArray[k]?=zh o:=by simpa using (hl 0 (by simp)).symm
  simp only[List.length_cons,Pd,Bool.and_eq_true]at hB;obtain⟨⟨hr,hf⟩,Aa⟩:=hB;simp only[List.length_cons]at k7;have di:k∈Region.ready md all.toArray listed:=by simpa using hr
  have SM:k<listed.size:=by
   rcases Nat.lt_or_ge k listed.size with h'|h'
   ·exact h'
   ·have:=Fz k (Nat.le_refl _) (by omega);simp[Array.getElem?_eq_none h']at this
  have next:∀v,sY P all.toArray C o v a->wpQuiet P all.toArray C (λa'=>∀w',C w'->∀r,r=all.drop n->xu P all.toArray C t Q n r a' w') l (a.put o.dst v)->Cn P md all.toArray C t Q ((o::l).length+(all.length-n)) listed a w:=λv hy hk=>by
   have ih:=ziM hs hn OR yO hQ l (k+1) (listed.setIfInBounds k true) (a.put o.dst v) w (bn.set di) (λj hj=>by have:=hl (j+1) (by simp;omega);simpa [Nat.add_assoc,Nat.add_comm 1 j]using this) (by omega)
    (λj hj=>by
     by_cases e:k=j
     ·subst e;simp[SM]
     ·rw[DV e];exact oC j (by omega))
    (λj h1 h2=>by rw[DV (by omega)];exact Fz j (by omega) h2) (λo ho=>yL o (by simp[ho])) Aa hC hk
   rw[show (o::l).length+(all.length-n)=(l.length+(all.length-n))+1 by simp;omega];exact zhG h0 (by omega) (λL hc hl=>LU hc 8 t k hl (hn k (by omega))) (Region.noSelect_spec hs) hQ _ listed a w bn (Region.free_spec h0 hf) di hy hC ih
  unfold wpQuiet at h
  by_cases hw:Region.wanted o (yielded all.toArray a.tmps)=true
  ·rw[if_pos hw]at h;obtain⟨v,hy,hk⟩:=zjp (yL o (by simp)) hw h;exact next v hy hk
  ·rw[if_neg hw]at h;exact next undef (.inr ⟨by simpa using hw,rfl⟩) h
theorem zh1(n t:Nat){id:Nat}{a:Act}{w:za}{all:List Oper}(C:za->Prop)(hm:P.follows .mixedOrders=true)(hC:C w.drew)(hB:zsY .any all n t=true)(hQ:∀c a a' w,Q (.panic c) a w->Q (.panic c) a' w)
  (h:∀l,l=all.take n->wpQuiet P all.toArray C (λa'=>∀w',C w'->∀r,r=all.drop n->xu P all.toArray C t Q n r a' w') l a):(Code.region id all.toArray true).wp P Q a w:=by
 simp only[zsY,Bool.and_eq_true,List.all_eq_true,List.mem_range,decide_eq_true_eq]at hB;obtain⟨⟨⟨⟨⟨hs,hn⟩,yL⟩,yH⟩,OR⟩,yO⟩:=hB;have hlt:(all.take n).length=n:=by rw[List.length_take];omega
 refine wp_region_any hm ?_;have h1:=ziM (P:=P) (C:=C) (Q:=Q) (md:=.any) hs hn OR yO hQ (all.take n) 0 (Array.replicate all.toArray.size false) a w.drew (mz.start _ _) (λj hj=>by rw[hlt]at hj;simp[hj]) (by omega) (λj hj=>absurd hj (Nat.not_lt_zero _)) (λj _ hj=>by simp[hj]) (λo ho=>yL o ho) (by rw[hlt];simpa using yH) hC (h _ rfl);have h2:=zfL _ _ _ _ h1;rw[hlt,show n+(all.length-n)=all.length by omega]at h2
 simpa using h2
theorem yX{t k:Nat}{o:Oper}{rest:List Oper}{a:Act}{w:za}(hg:o.guard=zn)(h:∀K:Act->za->Prop,(∀a' w',(k<t->C w')->xu P ops C t Q (k+1) rest a' w'->K a' w')->o.wp P a w K Q):xu P ops C t Q k (o::rest) a w:=by
 unfold xu;rw[if_pos (by simp[Region.wanted,hg])];exact h _ (λ_ _ h1 h2=>⟨h1,h2⟩)
theorem Jp{t:Nat}:∀(l:List Oper) (k:Nat) (a:Act) (w:za),t<=k->(∀a w,¬Q .outgrown a w)->wpList P ops Q l a w->xu P ops C t Q k l a w
 |[],_,_,_,_,_,h=>h
 |o::l,k,a,w,hk,hL,h=>by
  unfold wpList at h;unfold xu
  by_cases hw:Region.wanted o (yielded ops a.tmps)=true
  ·rw[if_pos hw]at h ⊢;rcases h with h|h
   ·exact Oper.wp_mono (λa w h=>⟨λe=>absurd e (by omega),Jp l (k+1) a w (by omega) hL h⟩) h
   ·obtain⟨_,a',w',h'⟩:=h;exact absurd h' (hL a' w')
  ·rw[if_neg hw]at h ⊢;exact⟨λe=>absurd e (by omega),Jp l (k+1) _ w (by omega) hL h⟩
def Cp(Q:Exit->Act->za->Prop):Exit->Act->za->Prop
 |.panic _,_,_=>False
 |.outgrown,_,_=>False
 |.normal,a,w=>Q .normal a w
 |.ret,a,w=>Q .ret a w
 |.exit id,a,w=>Q (.exit id) a w
 |.goto l,a,w=>Q (.goto l) a w
theorem oJ{Q:Exit->Act->za->Prop}{a:Act}{w:za}:Cp Q .normal a w=Q .normal a w:=rfl
theorem zfx{Q:Exit->Act->za->Prop}:∀e a w,Cp Q e a w->Q e a w:=λe a w h=>by
 cases e with
 |panic c=>exact h.elim
 |outgrown=>exact h.elim
 |normal=>exact h
 |ret=>exact h
 |exit id=>exact h
 |goto l=>exact h
theorem PD(n t:Nat){id:Nat}{a:Act}{w:za}{all:List Oper}(C:za->Prop)(hm:P.follows .mixedOrders=true)(hC:C w.drew)(hB:zsY .any all n t=true)
  (h:∀l,l=all.take n->wpQuiet P all.toArray C (λa'=>∀w',C w'->∀r,r=all.drop n->xu P all.toArray C t (Cp Q) n r a' w') l a):(Code.region id all.toArray true).wp P Q a w:=
 wp_mono (zh1 n t C hm hC hB (λ_ _ _ _ h=>h.elim) h) zfx
end
end Go.Proofs.Ytfajjdgkiilhfaa
