import Derived.Test.YthdljcdbfmhleaaGreatDoorC26
import Derived.OrdersIn
import Derived.RangeFuncCalls
import Derived.RangeFuncNested
import Derived.RangeFuncBound
import Derived.RangeFuncLeaves
import Derived.Shelf.Abstract
import Derived.Shelf.RegionOpen
import Derived.WalkKit
import Derived.OwnWalkIn
import Derived.TacticsInMore
import Derived.LoopNIn
import Derived.LoopIn
namespace Go.Proofs.YthdljcdbfmhleaaGreatDoor
section
open Go
section
variable {P:Program} {ops:Array Oper} {md:Region.Mode} {C:World->Prop}
def zcN(md:Region.Mode)(ops:Array Oper):Nat->Nat->Array Bool->Bool
 |0,_,listed=>(Region.ready md ops listed).isEmpty
 |f+1,k,listed=>(Region.ready md ops listed == [k])&&zcN md ops f (k+1) (listed.setIfInBounds k true)
theorem zh1{f k:Nat}{listed:Array Bool}(h:zcN md ops f k listed=true):∀j∈Region.ready md ops listed,j=k/\0<f:=fun j hj=>by
 cases f with
 |zero=>
  simp only[zcN,List.isEmpty_iff] at h;rw[h] at hj;cases hj
 |succ f=>
  simp only[zcN,Bool.and_eq_true,beq_iff_eq] at h;rw[h.1] at hj;exact⟨by simpa using hj,by omega⟩
theorem ze2{Q:Exit->Act->World->Prop}:∀(l:List Oper) (k:Nat) (listed:Array Bool) (a:Act) (w:World),(∀j,j<l.length->l[j]?=ops[k+j]?)->zcN md ops l.length k listed=true->wpList P ops Q l a w->wpAny P md ops Q l.length listed a w
 |[],_,_,_,_,_,hB,h=>by
  simp only[List.length_nil,zcN,List.isEmpty_iff] at hB;exact⟨hB,h⟩
 |o::l,k,listed,a,w,hl,hB,h=>by
  have h0:ops[k]?=some o:=by simpa using (hl 0 (by simp)).symm
  simp only[List.length_cons,zcN,Bool.and_eq_true,beq_iff_eq] at hB;have ih:=fun a w h=>ze2 (Q:=Q) l (k+1) (listed.setIfInBounds k true) a w (fun j hj=>by have:=hl (j+1) (by simp;omega);simpa [Nat.add_assoc,Nat.add_comm 1 j] using this) hB.2 h
  refine⟨fun e=>absurd e (by rw[hB.1];simp),fun i hi=>?_⟩;rw[hB.1] at hi;have e:i=k:=by simpa using hi
  subst e;unfold wpOp;simp only[h0];unfold wpList at h
  by_cases hw:Region.wanted o (yielded ops a.tmps)=true
  ·rw[if_pos hw] at h ⊢;rcases h with h|h
   ·exact .inl (Oper.wp_mono (fun a w h=>ih a w h) h)
   ·exact .inr h
  ·rw[if_neg hw] at h ⊢;exact ih _ _ h
def ziQ(P:Program)(md:Region.Mode)(ops:Array Oper)(C:World->Prop)(n:Nat)(Q:Act->Prop):Nat->Array Bool->Act->Prop
 |0,listed,a=>zcN md ops (ops.size-n) n listed=true/\Q a
 |fuel+1,listed,a=>Region.ready md ops listed≠[]/\∀i∈Region.ready md ops listed,qOp P ops C i (ziQ P md ops C n Q fuel (listed.setIfInBounds i true)) a
theorem zel{Q:Act->Prop}{Q':Exit->Act->World->Prop}{n:Nat}{l:List Oper}(hl:∀j,j<l.length->l[j]?=ops[n+j]?)(hsz:ops.size-n=l.length)(hQ:∀a w,C w->Q a->wpList P ops Q' l a w):
  ∀(fuel:Nat) (listed:Array Bool) (a:Act) (w:World),C w->ziQ P md ops C n Q fuel listed a->wpAny P md ops Q' (fuel+l.length) listed a w
 |0,listed,a,w,hw,h=>by
  rw[Nat.zero_add];exact ze2 l n listed a w hl (by rw[<-hsz];exact h.1) (hQ a w hw h.2)
 |fuel+1,listed,a,w,hw,h=>by
  rw[show fuel+1+l.length=fuel+l.length+1 by omega];exact⟨fun h0=>absurd h0 h.1,fun i hi=>wpOp_of_qOp hw (fun a' w' hw'=>zel hl hsz hQ fuel _ a' w' hw') (h.2 i hi)⟩
theorem ziR{Q:Act->Prop}{i n:Nat}{oi:Oper}{v:Value}(hi:ops[i]?=some oi)(hlast:∀listed:Array Bool,za9 md ops listed->n∈Region.ready md ops listed->listed.getD i true=true)(hsel:∀(j:Nat) (o:Oper) cs b,ops[j]?=some o->o.op≠.select cs b):
  ∀(fuel:Nat) (listed:Array Bool) (a:Act),za9 md ops listed->
   (∀j oj,ops[j]?=some oj->j≠i->listed.getD j true=false->(∀e∈oj.after,Region.binds md e=true->e.on≠i)->oi.apart ops oj=true)->
   i∈Region.ready md ops listed->YieldsIn P ops C oi v a->
   ziQ P md ops C n Q fuel (listed.setIfInBounds i true) (a.put oi.dst v)->ziQ P md ops C n Q (fuel+1) listed a:=by
 intro fuel
 induction fuel with
 |zero=>
  intro listed a hcl _ hr hy H;refine⟨fun h=>(by rw[h] at hr;cases hr),fun j hj=>?_⟩
  by_cases hji:j=i
  ·subst hji;exact hy.qOp hi H
  ·have h2:=(zh1 H.1 j (ready_mono hj hji)).1;subst h2;have h1:=hlast _ hcl hj;rw[(mem_ready.1 hr).1] at h1;cases h1
 |succ fuel ih=>
  intro listed a hcl hfree hr hy H;refine⟨fun h=>(by rw[h] at hr;cases hr),fun j hj=>?_⟩
  by_cases hji:j=i
  ·subst hji;exact hy.qOp hi H
  ·have h1:=H.2 j (ready_mono hj hji);obtain⟨hjun,oj,hoj,hall⟩:=mem_ready.1 hj;have hnot:∀e∈oj.after,Region.binds md e=true->e.on≠i:=fun e he hb heq=>by
    have h1:=hall e he hb;have h0:=(mem_ready.1 hr).1;rw[heq] at h1;rcases Nat.lt_or_ge i listed.size with h'|h'
    ·simp[h'] at h0 h1;rw[h0] at h1;cases h1
    ·simp[Array.getElem?_eq_none h'] at h1
   have h2:=qOp_put hoj (hfree j oj hoj hji hjun hnot) (fun cs b=>hsel i oi cs b hi) (fun cs b=>hsel j oj cs b hoj) hy h1;have hfree':∀k ok,ops[k]?=some ok->k≠i->(listed.setIfInBounds j true).getD k true=false->
     (∀e∈ok.after,Region.binds md e=true->e.on≠i)->oi.apart ops ok=true:=fun k ok hk hki hun hno=>by
    refine hfree k ok hk hki ?_ hno
    by_cases hjk:j=k
    ·subst hjk;exact hjun
    ·rw[getD_set_ne true hjk] at hun;exact hun
   refine qOp_mono (fun a' h3=>ih (listed.setIfInBounds j true) a' (hcl.set hj) hfree' (ready_mono hr (Ne.symm hji)) h3.1 ?_) h2;rw[Array.setIfInBounds_comm _ _ hji];exact h3.2
def zbI(md:Region.Mode)(ops:Array Oper):Nat->Nat->Nat->Bool
 |0,n,i=>zgg md ops n i
 |f+1,n,i=>zgg md ops n i || (List.range n).any fun k=>zgg md ops n k&&zbI md ops f k i
theorem znZ{n i:Nat}(h:zgg md ops n i=true):∃o,ops[n]?=some o/\∃e∈o.after,Region.binds md e=true/\e.on=i:=by
 unfold zgg at h;split at h
 ·rename_i o ho
  simp only[Array.any_eq_true,Bool.and_eq_true,beq_iff_eq] at h;obtain⟨q,hq,hb,he⟩:=h;exact⟨o,ho,_,Array.getElem_mem hq,hb,he⟩
 ·cases h
theorem zbg{listed:Array Bool}(hc:za9 md ops listed):∀(f n i:Nat),listed.getD n true=true->zbI md ops f n i=true->listed.getD i true=true
 |0,n,i,hl,h=>by
  obtain⟨o,ho,e,he,hb,e2⟩:=znZ h;rw[<-e2];exact hc n o ho hl e he hb
 |f+1,n,i,hl,h=>by
  unfold zbI at h;rw[Bool.or_eq_true] at h;rcases h with h|h
  ·exact zbg hc 0 n i hl h
  ·obtain⟨k,_,hk⟩:=List.any_eq_true.1 h;rw[Bool.and_eq_true] at hk;exact zbg hc f k i (zbg hc 0 n k hl hk.1) hk.2
theorem zkc{f n i:Nat}(h:zbI md ops f n i=true)(listed:Array Bool)(hc:za9 md ops listed)(hr:n∈Region.ready md ops listed):listed.getD i true=true:=by
 cases f with
 |zero=>exact zeH h listed hr
 |succ f=>
  unfold zbI at h;rw[Bool.or_eq_true] at h;rcases h with h|h
  ·exact zeH h listed hr
  ·obtain⟨k,_,hk⟩:=List.any_eq_true.1 h;rw[Bool.and_eq_true] at hk;exact zbg hc f k i (zeH hk.1 listed hr) hk.2
def lexT(md:Region.Mode)(ops:Array Oper)(n:Nat):Nat->Nat->Array Bool->Bool
 |0,_,listed=>zcN md ops (ops.size-n) n listed
 |fuel+1,k,listed=>(Region.ready md ops listed).contains k&&Region.free md ops listed k&&lexT md ops n fuel (k+1) (listed.setIfInBounds k true)
def preB(md:Region.Mode)(ops:Array Oper)(n:Nat):Bool:=
 Region.noSelect ops&&(List.range n).all (fun i=>decide (ops.size<=n) || zbI md ops 6 n i)&&lexT md ops n n 0 (Array.replicate ops.size false)
theorem zg2{Q:Act->Prop}{n:Nat}(hs:Region.noSelect ops=true)(hn:∀i,i<n->(decide (ops.size<=n) || zbI md ops 6 n i)=true):∀(l:List Oper) (k:Nat) (listed:Array Bool) (a:Act),za9 md ops listed->(∀j,j<l.length->l[j]?=ops[k+j]?)->k+l.length=n->
  lexT md ops n l.length k listed=true->wpQuiet P ops C Q l a->ziQ P md ops C n Q l.length listed a
 |[],_,_,_,_,_,_,hB,h=>⟨hB,h⟩
 |o::l,k,listed,a,hcl,hl,hkn,hB,h=>by
  have h0:ops[k]?=some o:=by simpa using (hl 0 (by simp)).symm
  simp only[List.length_cons,lexT,Bool.and_eq_true] at hB;obtain⟨⟨hr,hf⟩,hB'⟩:=hB;have hst:qOp P ops C k (wpQuiet P ops C Q l) a:=by unfold qOp;simp only[h0];exact h
  obtain⟨v,hy,hK⟩:=yieldsIn_of_qOp h0 hst;simp only[List.length_cons] at hkn;have hr':k∈Region.ready md ops listed:=by simpa using hr
  exact ziR h0 (fun L hc hn'=>by
    have h1:=hn k (by omega);rw[Bool.or_eq_true] at h1;rcases h1 with h1|h1
    ·have h2:=of_decide_eq_true h1;obtain⟨_,o',ho',_⟩:=mem_ready.1 hn';have:=(Array.getElem?_eq_some_iff.1 ho').1;omega
    ·exact zkc h1 L hc hn') (Region.noSelect_spec hs) l.length listed a hcl (Region.free_spec h0 hf) hr' hy
   (zg2 hs hn l (k+1) _ _ (hcl.set hr') (fun j hj=>by have:=hl (j+1) (by simp;omega);simpa [Nat.add_assoc,Nat.add_comm 1 j] using this) (by omega) hB' hK)
theorem ziS(n:Nat){Q:Exit->Act->World->Prop}{a:Act}{w:World}{all:List Oper}(C:World->Prop)(hC:C w)(hn:n<=all.length)(hB:preB md all.toArray n=true)
  (h:∀l,l=all.take n->wpQuiet P all.toArray C (fun a'=>∀w',C w'->∀r,r=all.drop n->wpList P all.toArray Q r a' w') l a):wpAny P md all.toArray Q all.length (Array.replicate all.length false) a w:=by
 simp only[preB,Bool.and_eq_true,List.all_eq_true,List.mem_range] at hB;have hlt:(all.take n).length=n:=by rw[List.length_take];omega
 have hld:(all.drop n).length=all.length-n:=by rw[List.length_drop]
 have h1:=zg2 (P:=P) (C:=C) hB.1.1 hB.1.2 (all.take n) 0 (Array.replicate all.toArray.size false) a (za9.start _ _) (fun j hj=>by rw[hlt] at hj;simp[hj]) (by omega) (by rw[hlt];exact hB.2) (h _ rfl);have h2:=zel (md:=md) (C:=C) (Q':=Q) (n:=n) (l:=all.drop n) (fun j _=>by simp[List.getElem?_drop]) (by simp) (fun a w hw hq=>hq w hw _ rfl) (all.take n).length _ a w hC h1;rw[hlt,hld,show n+(all.length-n)=all.length by omega] at h2
 simpa using h2
theorem zbt(n:Nat){id:Nat}{Q:Exit->Act->World->Prop}{a:Act}{w:World}{all:List Oper}(C:World->Prop)(hm:P.follows .mixedOrders=true)(hC:C w.drew)(hn:n<=all.length)(hB:preB .any all.toArray n=true)
  (h:∀l,l=all.take n->wpQuiet P all.toArray C (fun a'=>∀w',C w'->∀r,r=all.drop n->wpList P all.toArray Q r a' w') l a):(Code.region id all.toArray true).wp P Q a w:=by
 refine wp_region_any hm ?_;have:=ziS (md:=.any) n C hC hn hB h
 simpa using this
theorem zlQ{o:Oper}{a:Act}{w:World}{K:Act->World->Prop}{Q:Exit->Act->World->Prop}(l n:Nat)(hd:∀c,o.op≠.defer c)(h:o.wp P a w K Q):o.wpIn (Fence.wide.inRound l) n P a w K Q:=by
 refine⟨fun _ _=>trivial,?_⟩;rw[Oper.semAt_eq _ _ _ hd];unfold Oper.wp at h;generalize (execOp a.eval o).run P w=r at *;have hdp:(Fence.wide.inRound l).depth.isSome=true->1<=n:=fun e=>by cases e
 cases r with
 |ok nx w'=>
  cases nx with
  |value v=>exact h
  |skip=>exact h
  |defer d=>exact h
  |enter f args=>exact⟨hdp,CallsIn.inRound l (callsIn_wide.2 h)⟩
  |row row args=>exact⟨hdp,fun c cs _=>by
    obtain⟨v,w2,h1,h2⟩:=h c cs;exact⟨v,w2,h1,stepsIn_wide.2 h2⟩⟩
  |round l f tmps assign body=>exact h.elim
  |_=>exact h.elim
 |halt hh w'=>
  cases hh with
  |panic v=>exact h
  |_=>exact h.elim
theorem zcm{Q:Exit->Act->World->Prop}(l n:Nat)(hQ:¬LetsOut Q)(hd:∀(j:Nat) (o:Oper),ops[j]?=some o->∀c,o.op≠.defer c):∀(fuel:Nat) (listed:Array Bool) (a:Act) (w:World),wpAny P md ops Q fuel listed a w->wpAnyIn (Fence.wide.inRound l) n P md ops Q fuel listed a w
 |0,_,_,_,h=>h
 |fuel+1,listed,a,w,h=>by
  refine⟨h.1,fun i hi=>?_⟩;have h1:=h.2 i hi;unfold wpOp at h1;unfold wpOpIn;split
  ·rename_i e
   simp only[e] at h1;exact zcm l n hQ hd fuel _ _ _ h1
  ·rename_i o e
   simp only[e] at h1
   by_cases hw:Region.wanted o (yielded ops a.tmps)=true
   ·rw[if_pos hw] at h1 ⊢;rcases h1 with h1|h1
    ·exact zlQ l n (hd i o e) (Oper.wp_mono (fun a w h=>zcm l n hQ hd fuel _ a w h) h1)
    ·exact absurd h1.2 hQ
   ·rw[if_neg hw] at h1 ⊢;exact⟨fun _ _=>trivial,zcm l n hQ hd fuel _ _ _ h1⟩
def zjz(ops:List Oper):Bool:=ops.all fun o=>match o.op with | .defer _=>false|_=>true
theorem zeU{all:List Oper}(h:zjz all=true)(j:Nat)(o:Oper)(ho:all.toArray[j]?=some o)(c:_):o.op≠.defer c:=fun e=>by
 have hm:o∈all:=by
  rw[List.getElem?_toArray] at ho;exact List.mem_of_getElem? ho
 have:=List.all_eq_true.1 h o hm;rw[e] at this;cases this
theorem zgk(n:Nat){id l nn:Nat}{Q:Exit->Act->World->Prop}{a:Act}{w:World}{all:List Oper}(C:World->Prop)(hm:P.follows .mixedOrders=true)(hC:C w.drew)(hQ:¬LetsOut Q)(hn:n<=all.length)(hB:preB .any all.toArray n=true)(hD:zjz all=true)
  (h:∀l,l=all.take n->wpQuiet P all.toArray C (fun a'=>∀w',C w'->∀r,r=all.drop n->wpList P all.toArray Q r a' w') l a):(Code.region id all.toArray true).wpIn (Fence.wide.inRound l) nn P Q a w:=by
 refine wpIn_region_any hm ?_;have:=zcm l nn hQ (zeU hD) _ _ _ _ (ziS (md:=.any) n C hC hn hB h)
 simpa using this
end
end
section
open Go
section
variable {P:Program} {ops:Array Oper} {md:Region.Mode} {C:World->Prop} {Q:Exit->Act->World->Prop}
def zbl(P:Program)(ops:Array Oper)(C:World->Prop)(o:Oper)(v:Value)(a:Act):Prop:=
 (Region.wanted o (yielded ops a.tmps)=true/\∀w,C w->(execOp a.eval o).run P w=.ok (.value v) w)\/(Region.wanted o (yielded ops a.tmps)=false/\v=undef)
theorem zbl.of_same{o:Oper}{v:Value}{a a':Act}(hy:zbl P ops C o v a)(he:execOp a'.eval o=execOp a.eval o)(hw:Region.wanted o (yielded ops a'.tmps)=Region.wanted o (yielded ops a.tmps)):zbl P ops C o v a':=by
 unfold zbl at *;rw[he,hw];exact hy
theorem zbl.fire{i:Nat}{o:Oper}{v:Value}{a:Act}(hi:ops[i]?=some o)(hy:zbl P ops C o v a){K:Act->World->Prop}{w:World}(hC:C w)(h:K (a.put o.dst v) w):wpOp P ops Q i K a w:=by
 unfold Go.wpOp;simp only[hi];rcases hy with ⟨hw,hv⟩|⟨hw,rfl⟩
 ·simp only[hw,if_true,Oper.wp,hv w hC,Oper.upon];exact .inl h
 ·simp only[hw,Bool.false_eq_true,if_false];exact h
theorem zn3{j:Nat}{oi oj:Oper}{v:Value}(hj:ops[j]?=some oj)(hap:oi.apart ops oj=true)(hsi:∀cs b,oi.op≠.select cs b)(hsj:∀cs b,oj.op≠.select cs b)
  (hQ:∀c a w,Q (.panic c) (a.put oi.dst v) w->Q (.panic c) a w) {K:Act->World->Prop} {a:Act} {w:World} (hy:zbl P ops C oi v a) (h:wpOp P ops Q j K (a.put oi.dst v) w):
  wpOp P ops Q j (fun a' w'=>zbl P ops C oi v a'/\K (a'.put oi.dst v) w') a w:=by
 obtain⟨h1,h2,h3⟩:=Oper.apart_spec hap;have keep:∀(a:Act),zbl P ops C oi v a->∀u,zbl P ops C oi v (a.put oj.dst u):=fun a hy u=>hy.of_same (execOp_put oi hsi a oj.dst u h3) (wanted_put oi a oj.dst u h3)
 unfold wpOp at *;simp only[hj] at *;rw[wanted_put oj a oi.dst v h1] at h
 by_cases hw:Region.wanted oj (yielded ops a.tmps)=true
 ·simp only[hw,if_true] at h ⊢;rcases h with h|⟨hasks,hlets⟩
  case inr=>exact .inr ⟨by unfold Oper.asks at *;rw[execOp_put oj hsj a oi.dst v h1] at hasks;exact hasks,hlets⟩
  refine .inl ?_;unfold Oper.wp at *;rw[execOp_put oj hsj a oi.dst v h1] at h;generalize (execOp a.eval oj).run P w=r at *;cases r with
  |ok n w'=>
   cases n<;>simp only[Oper.upon] at h ⊢
   case value u=>exact⟨keep a hy u,by rw[<-Act.put_comm a v u h2];exact h⟩
   case skip=>exact⟨keep a hy _,by rw[<-Act.put_comm a v undef h2];exact h⟩
   case defer d=>
    have hyd:zbl P ops C oi v {a with defers:=d::a.defers}:=hy.of_same rfl rfl;refine⟨keep _ hyd _,?_⟩;rw[<-Act.put_comm _ v undef h2,<-Act.put_defers];exact h
   case enter f args=>
    refine Calls.mono h fun e w'' he=>?_
    cases e with
    |returned u=>exact⟨keep a hy u,by rw[<-Act.put_comm a v u h2];exact he⟩
    |panicked c=>exact hQ _ _ _ he
    |outgrown=>exact he
   case row row args=>exact Rows.mono h fun u w'' he=>⟨keep a hy u,by rw[<-Act.put_comm a v u h2];exact he⟩
  |halt x w'=>
   cases x<;>simp only[Oper.upon] at h ⊢
   case panic u=>exact hQ _ _ _ h
 ·have hw':Region.wanted oj (yielded ops a.tmps)=false:=by simpa using hw
  simp only[hw',Bool.false_eq_true,if_false] at h ⊢;exact⟨keep a hy _,by rw[<-Act.put_comm a v undef h2];exact h⟩
def zcY(P:Program)(md:Region.Mode)(ops:Array Oper)(C:World->Prop)(t:Nat)(Q:Exit->Act->World->Prop):Nat->Array Bool->Act->World->Prop
 |0,listed,a,w=>Region.ready md ops listed=[]/\Q .normal a w
 |fuel+1,listed,a,w=>(Region.ready md ops listed=[]->Q .normal a w)/\
  ∀i∈Region.ready md ops listed,wpOp P ops Q i (fun a' w'=>((listed.setIfInBounds i true).getD t true=false->C w')/\zcY P md ops C t Q fuel (listed.setIfInBounds i true) a' w') a w
theorem zds{t:Nat}:∀(fuel:Nat) (listed:Array Bool) (a:Act) (w:World),zcY P md ops C t Q fuel listed a w->wpAny P md ops Q fuel listed a w
 |0,_,_,_,h=>h
 |fuel+1,_,_,_,h=>⟨h.1,fun i hi=>wpOp_mono (fun a w k=>zds fuel _ a w k.2) (h.2 i hi)⟩
theorem zbV{l:Array Bool}{i j:Nat}(h:i≠j):(l.setIfInBounds i true).getD j true=l.getD j true:=getD_set_ne true h
theorem zdX{i t:Nat}{oi:Oper}{v:Value}(hi:ops[i]?=some oi)(hti:t≠i)(hlast:∀listed:Array Bool,za9 md ops listed->listed.getD t true=true->listed.getD i true=true)
  (hsel:∀(j:Nat) (o:Oper) cs b,ops[j]?=some o->o.op≠.select cs b) (hQ:∀c a a' w,Q (.panic c) a w->Q (.panic c) a' w):
  ∀(fuel:Nat) (listed:Array Bool) (a:Act) (w:World),za9 md ops listed->
   (∀j oj,ops[j]?=some oj->j≠i->listed.getD j true=false->(∀e∈oj.after,Region.binds md e=true->e.on≠i)->oi.apart ops oj=true)->
   i∈Region.ready md ops listed->zbl P ops C oi v a->C w->
   zcY P md ops C t Q fuel (listed.setIfInBounds i true) (a.put oi.dst v) w->zcY P md ops C t Q (fuel+1) listed a w:=by
 intro fuel
 induction fuel with
 |zero=>
  intro listed a w hcl _ hr hy hC H;refine⟨fun h=>(by rw[h] at hr;cases hr),fun j hj=>?_⟩
  by_cases hji:j=i
  ·subst hji;exact hy.fire hi hC ⟨fun _=>hC,H⟩
  ·have:=ready_mono hj hji;rw[H.1] at this;cases this
 |succ fuel ih=>
  intro listed a w hcl hfree hr hy hC H;refine⟨fun h=>(by rw[h] at hr;cases hr),fun j hj=>?_⟩
  by_cases hji:j=i
  ·subst hji;exact hy.fire hi hC ⟨fun _=>hC,H⟩
  ·have h1:=H.2 j (ready_mono hj hji);obtain⟨hjun,oj,hoj,hall⟩:=mem_ready.1 hj;have hiun:=(mem_ready.1 hr).1;have hnot:∀e∈oj.after,Region.binds md e=true->e.on≠i:=fun e he hb heq=>by
    have h1:=hall e he hb;rw[heq] at h1;rcases Nat.lt_or_ge i listed.size with h'|h'
    ·simp[h'] at hiun h1;rw[hiun] at h1;cases h1
    ·simp[Array.getElem?_eq_none h'] at h1
   have h2:=zn3 hoj (hfree j oj hoj hji hjun hnot) (fun cs b=>hsel i oi cs b hi) (fun cs b=>hsel j oj cs b hoj) (fun c a w h=>hQ c _ _ w h) hy h1;have hfree':∀k ok,ops[k]?=some ok->k≠i->(listed.setIfInBounds j true).getD k true=false->(∀e∈ok.after,Region.binds md e=true->e.on≠i)->oi.apart ops ok=true:=fun k ok hk hki hun hno=>by
    refine hfree k ok hk hki ?_ hno
    by_cases hjk:j=k
    ·subst hjk;exact hjun
    ·rw[zbV hjk] at hun;exact hun
   have hclj:=hcl.set hj;have htj:(listed.setIfInBounds j true).getD t true=false:=by
    cases hb:(listed.setIfInBounds j true).getD t true
    ·rfl
    ·have h3:=hlast _ hclj hb;rw[zbV hji,hiun] at h3;cases h3
   refine wpOp_mono (fun a' w' h3=>?_) h2;obtain⟨hy',hC',hrest⟩:=h3;have hCw:C w':=hC' (by rw[Array.setIfInBounds_comm _ _ (Ne.symm hji),zbV (Ne.symm hti)];exact htj);exact⟨fun _=>hCw,ih _ a' w' hclj hfree' (ready_mono hr (Ne.symm hji)) hy' hCw (by rw[Array.setIfInBounds_comm _ _ hji];exact hrest)⟩
def zjV(o:Oper):Bool:=match o.op with
 |.move _=>true
 |.assign _=>true
 |.load _ _=>true
 |.fieldAddr _ _ _=>true
 |.indexAddr _ _ _=>true
 |.binOp _ _ _ _ _=>true
 |_=>false
theorem ziD{s:Sem Value}{w w':World}{n:Next}(h:(do pure (Next.value (<-s)):Sem Next).run P w=.ok n w'):∃u,n=.value u:=by
 simp only[Sem.run_bind,Sem.run_pure] at h;cases hr:s.run P w with
 |ok u w1=>rw[hr] at h;simp only[Result.andThen] at h;injection h with h1;exact⟨u,h1.symm⟩
 |halt x w1=>rw[hr] at h;simp[Result.andThen] at h
theorem zlW{o:Oper}(h:zjV o=true){ρ:Operand->Value}{w w':World}{n:Next}(hr:(execOp ρ o).run P w=.ok n w'):∃u,n=.value u:=by
 obtain⟨dst,op,type,pos,after,guard⟩:=o;cases op<;>simp only[zjV,Bool.false_eq_true] at h
 all_goals (simp only[execOp] at hr)
 case move x=>rw[Sem.run_pure] at hr;injection hr with h1;exact⟨_,h1.symm⟩
 case assign x=>rw[Sem.run_pure] at hr;injection hr with h1;exact⟨_,h1.symm⟩
 all_goals exact ziD hr
theorem zhr{o:Oper}{a:Act}{K:Act->Prop}(hb:zjV o=true)(hw:Region.wanted o (yielded ops a.tmps)=true)(h:o.quiet P a C K):∃v,zbl P ops C o v a/\K (a.put o.dst v):=by
 obtain⟨v,h1,h2⟩:=h;refine⟨v,.inl ⟨hw,fun w hC=>?_⟩,h2⟩;have h3:=h1 w hC;unfold Oper.quietAt at h3;cases hr:(execOp a.eval o).run P w with
 |ok n w'=>
  obtain⟨u,rfl⟩:=zlW hb hr;rw[hr] at h3;obtain⟨e1,e2⟩:=h3;rw[e1,e2]
 |halt x w'=>rw[hr] at h3;exact h3.elim
def zfj(Q:Exit->Act->World->Prop):Exit->Act->World->Prop
 |.panic _,_,_=>False
 |.outgrown,_,_=>False
 |.normal,a,w=>Q .normal a w
 |.ret,a,w=>Q .ret a w
 |.exit id,a,w=>Q (.exit id) a w
 |.goto l,a,w=>Q (.goto l) a w
theorem za5{Q:Exit->Act->World->Prop}{a:Act}{w:World}:zfj Q .normal a w=Q .normal a w:=rfl
theorem zcc{Q:Exit->Act->World->Prop}:∀e a w,zfj Q e a w->Q e a w:=fun e a w h=>by
 cases e with
 |panic c=>exact h.elim
 |outgrown=>exact h.elim
 |normal=>exact h
 |ret=>exact h
 |exit id=>exact h
 |goto l=>exact h
end
end
section
open Go.RowKit
end
section
open Go.RowKit
attribute [local go_sem] Oper.semAt_some
end
open Go.RowKit
def zqM(D:Nat):Deferred:={target:=.collected D,args:=#[]}
theorem zeR{n:Nat}{P:Program}{fn:Func}{tmps:Array Value}{R:Ending->World->Prop}:∀(Ds:List Nat) (W:World),Ds.Nodup->(∀D∈Ds,W.heap[D]?=some (.deferred (some [])))->
  (∀W',(∀k,k∉Ds->W'.heap[k]?=W.heap[k]?)->W'.heap.size=W.heap.size->W'.os=W.os->W'.tape=W.tape->W'.output=W.output->LeavesInM Fence.wide n P fn tmps R [] .returning W')->
  LeavesInM Fence.wide n P fn tmps R (Ds.map zqM) .returning W
 |[],W,_,_,h=>h W (fun _ _=>rfl) rfl rfl rfl rfl
 |D::Ds,W,hnd,hd,h=>by
  have h1:=hd D (by simp);refine⟨by simp,.inl ⟨D,_,rfl,run_takeDeferred h1,?_⟩⟩;have hn:=List.nodup_cons.1 hnd;refine zeR Ds _ hn.2 (fun D' hD'=>?_) (fun W' hk hsz ho ht hu=>h W' (fun k hkn=>?_) (hsz.trans (by simp)) (ho.trans rfl) (ht.trans rfl) (hu.trans rfl))
  ·exact(World.putObj_heap_other (fun e:D'=D=>hn.1 (e ▸ hD'))).trans (hd D' (by simp[hD']))
  ·rw[hk k (fun e=>hkn (by simp[e])),World.putObj_heap_other (fun e:k=D=>hkn (by simp[e]))]
end Go.Proofs.YthdljcdbfmhleaaGreatDoor
