import Derived.Test.YtfajjdgkiilhfaaGreatDoorC4
import Derived.Deep.RegionLaw
import Derived.Deep.Cut
import Derived.Deep.CutRange
namespace Go.Proofs.YtfajjdgkiilhfaaGreatDoor
open Proofs.Tryz
open Go renaming World->za,Value->zc,Calls->zg,TypeId->zh
open Option renaming some->zb,none->zd
open Value renaming int->ze,slice->zf
set_option maxHeartbeats 1000000
set_option maxRecDepth 100000
open Go.RowKit
section
open Go
section
variable {P:Program} {ops:Array Oper} {md:Region.Mode} {C:za->Prop} {Q:Exit->Act->za->Prop}
def sM(P:Program)(ops:Array Oper)(C:za->Prop)(o:Oper)(v:zc)(a:Act):Prop:=
 (Region.wanted o (yielded ops a.tmps)=true/\∀w,C w->(execOp a.eval o).run P w=.ok (.value v) w)\/(Region.wanted o (yielded ops a.tmps)=false/\v=undef)
theorem sM.of_same{o:Oper}{v:zc}{a a':Act}(hy:sM P ops C o v a)(he:execOp a'.eval o=execOp a.eval o)(hw:Region.wanted o (yielded ops a'.tmps)=Region.wanted o (yielded ops a.tmps)):sM P ops C o v a':=by
 unfold sM at *;rw[he,hw];exact hy
theorem sM.zyc{i:Nat}{o:Oper}{v:zc}{a:Act}(hi:ops[i]?=zb o)(hy:sM P ops C o v a){K:Act->za->Prop}{w:za}(hC:C w)(h:K (a.put o.dst v) w):wpOp P ops Q i K a w:=by
 unfold Go.wpOp;simp only[hi];rcases hy with ⟨hw,hv⟩|⟨hw,rfl⟩
 ·simp only[hw,if_true,Oper.wp,hv w hC,Oper.upon];exact .inl h
 ·simp only[hw,Bool.false_eq_true,if_false];exact h
theorem zr1{j:Nat}{oi oj:Oper}{v:zc}(hj:ops[j]?=zb oj)(hap:oi.apart ops oj=true)(Sl:∀cs b,oi.op≠.select cs b)(hsj:∀cs b,oj.op≠.select cs b)
  (hQ:∀c a w,Q (.panic c) (a.put oi.dst v) w->Q (.panic c) a w) {K:Act->za->Prop} {a:Act} {w:za} (hy:sM P ops C oi v a) (h:wpOp P ops Q j K (a.put oi.dst v) w):
  wpOp P ops Q j (λa' w'=>sM P ops C oi v a'/\K (a'.put oi.dst v) w') a w:=by
 obtain⟨h1,h2,h3⟩:=Oper.apart_spec hap;have keep:∀(a:Act),sM P ops C oi v a->∀u,sM P ops C oi v (a.put oj.dst u):=λa hy u=>hy.of_same (execOp_put oi Sl a oj.dst u h3) (wanted_put oi a oj.dst u h3)
 unfold wpOp at *;simp only[hj]at *;rw[wanted_put oj a oi.dst v h1]at h
 by_cases hw:Region.wanted oj (yielded ops a.tmps)=true
 ·simp only[hw,if_true]at h ⊢;rcases h with h|⟨zys,zBP⟩
  case inr=>exact .inr ⟨by unfold Oper.asks at *;rw[execOp_put oj hsj a oi.dst v h1]at zys;exact zys,zBP⟩
  refine .inl ?_;unfold Oper.wp at *;rw[execOp_put oj hsj a oi.dst v h1]at h;generalize (execOp a.eval oj).run P w=r at *;cases r with
  |ok n w'=>
   cases n<;>simp only[Oper.upon]at h ⊢
   case value u=>exact⟨keep a hy u,by rw[<-Act.put_comm a v u h2];exact h⟩
   case skip=>exact⟨keep a hy _,by rw[<-Act.put_comm a v undef h2];exact h⟩
   case defer d=>
    have hyd:sM P ops C oi v {a with defers:=d::a.defers}:=hy.of_same rfl rfl;refine⟨keep _ hyd _,?_⟩;rw[<-Act.put_comm _ v undef h2,<-Act.put_defers];exact h
   case enter f args=>
    refine Calls.mono h λe w'' he=>?_
    cases e with
    |returned u=>exact⟨keep a hy u,by rw[<-Act.put_comm a v u h2];exact he⟩
    |panicked c=>exact hQ _ _ _ he
    |outgrown=>exact he
   case row row args=>exact Rows.mono h λu w'' he=>⟨keep a hy u,by rw[<-Act.put_comm a v u h2];exact he⟩
  |halt x w'=>
   cases x<;>simp only[Oper.upon]at h ⊢
   case panic u=>exact hQ _ _ _ h
 ·have hw':Region.wanted oj (yielded ops a.tmps)=false:=by simpa using hw
  simp only[hw',Bool.false_eq_true,if_false]at h ⊢;exact⟨keep a hy _,by rw[<-Act.put_comm a v undef h2];exact h⟩
def Bd(P:Program)(md:Region.Mode)(ops:Array Oper)(C:za->Prop)(t:Nat)(Q:Exit->Act->za->Prop):Nat->Array Bool->Act->za->Prop
 |0,listed,a,w=>Region.ready md ops listed=[]/\Q .normal a w
 |fuel+1,listed,a,w=>(Region.ready md ops listed=[]->Q .normal a w)/\
  ∀i∈Region.ready md ops listed,wpOp P ops Q i (λa' w'=>((listed.setIfInBounds i true).getD t true=false->C w')/\Bd P md ops C t Q fuel (listed.setIfInBounds i true) a' w') a w
theorem Z7{t:Nat}:∀(fuel:Nat) (listed:Array Bool) (a:Act) (w:za),Bd P md ops C t Q fuel listed a w->wpAny P md ops Q fuel listed a w
 |0,_,_,_,h=>h
 |fuel+1,_,_,_,h=>⟨h.1,λi hi=>wpOp_mono (λa w k=>Z7 fuel _ a w k.2) (h.2 i hi)⟩
theorem CR{l:Array Bool}{i j:Nat}(h:i≠j):(l.setIfInBounds i true).getD j true=l.getD j true:=getD_set_ne true h
theorem ziq{i t:Nat}{oi:Oper}{v:zc}(hi:ops[i]?=zb oi)(Ki:t≠i)(nI:∀listed:Array Bool,oP md ops listed->listed.getD t true=true->listed.getD i true=true)
  (zF:∀(j:Nat) (o:Oper) cs b,ops[j]?=zb o->o.op≠.select cs b) (hQ:∀c a a' w,Q (.panic c) a w->Q (.panic c) a' w):
  ∀(fuel:Nat) (listed:Array Bool) (a:Act) (w:za),oP md ops listed->
   (∀j oj,ops[j]?=zb oj->j≠i->listed.getD j true=false->(∀e∈oj.after,Region.binds md e=true->e.on≠i)->oi.apart ops oj=true)->
   i∈Region.ready md ops listed->sM P ops C oi v a->C w->
   Bd P md ops C t Q fuel (listed.setIfInBounds i true) (a.put oi.dst v) w->Bd P md ops C t Q (fuel+1) listed a w:=by
 intro fuel
 induction fuel with
 |zero=>
  intro listed a w aV _ hr hy hC H;refine⟨λh=>(by rw[h]at hr;cases hr),λj hj=>?_⟩
  by_cases gB:j=i
  ·subst gB;exact hy.zyc hi hC ⟨λ_=>hC,H⟩
  ·have:=ready_mono hj gB;rw[H.1]at this;cases this
 |succ fuel ih=>
  intro listed a w aV vU hr hy hC H;refine⟨λh=>(by rw[h]at hr;cases hr),λj hj=>?_⟩
  by_cases gB:j=i
  ·subst gB;exact hy.zyc hi hC ⟨λ_=>hC,H⟩
  ·have h1:=H.2 j (ready_mono hj gB);obtain⟨zA,oj,qB,bm⟩:=mem_ready.1 hj;have XT:=(mem_ready.1 hr).1;have GX:∀e∈oj.after,Region.binds md e=true->e.on≠i:=λe he hb Ci=>by
    have h1:=bm e he hb;rw[Ci]at h1;rcases Nat.lt_or_ge i listed.size with h'|h'
    ·simp[h']at XT h1;rw[XT]at h1;cases h1
    ·simp[Array.getElem?_eq_none h']at h1
   have h2:=zr1 qB (vU j oj qB gB zA GX) (λcs b=>zF i oi cs b hi) (λcs b=>zF j oj cs b qB) (λc a w h=>hQ c _ _ w h) hy h1;have GH:∀k ok,ops[k]?=zb ok->k≠i->(listed.setIfInBounds j true).getD k true=false->(∀e∈ok.after,Region.binds md e=true->e.on≠i)->oi.apart ops ok=true:=λk ok hk GO mV hno=>by
    refine vU k ok hk GO ?_ hno
    by_cases qz:j=k
    ·subst qz;exact zA
    ·rw[CR qz]at mV;exact mV
   have zyH:=aV.set hj;have htj:(listed.setIfInBounds j true).getD t true=false:=by
    cases hb:(listed.setIfInBounds j true).getD t true
    ·rfl
    ·have h3:=nI _ zyH hb;rw[CR gB,XT]at h3;cases h3
   refine wpOp_mono (λa' w' h3=>?_) h2;obtain⟨hy',hC',zB6⟩:=h3;have hCw:C w':=hC' (by rw[Array.setIfInBounds_comm _ _ (Ne.symm gB),CR (Ne.symm Ki)];exact htj);exact⟨λ_=>hCw,ih _ a' w' zyH GH (ready_mono hr (Ne.symm gB)) hy' hCw (by rw[Array.setIfInBounds_comm _ _ gB];exact zB6)⟩
def wJ(P:Program)(ops:Array Oper)(C:za->Prop)(t:Nat)(Q:Exit->Act->za->Prop):Nat->List Oper->Act->za->Prop
 |_,[],a,w=>Q .normal a w
 |k,o::rest,a,w=>if Region.wanted o (yielded ops a.tmps) then o.wp P a w (λa' w'=>(k<t->C w')/\wJ P ops C t Q (k+1) rest a' w') Q else (k<t->C w)/\wJ P ops C t Q (k+1) rest (a.put o.dst undef) w
theorem zfU{t:Nat}:∀(l:List Oper) (k:Nat) (listed:Array Bool) (a:Act) (w:za),(∀j,j<l.length->l[j]?=ops[k+j]?)->(∀j,j<k->listed.getD j true=true)->(∀j,k<=j->j<k+l.length->listed.getD j true=false)->wH md ops l.length k listed=true->t<k+l.length->wJ P ops C t Q k l a w->Bd P md ops C t Q l.length listed a w
 |[],_,_,_,_,_,_,_,hB,_,h=>by
  simp only[List.length_nil,wH,List.isEmpty_iff]at hB;exact⟨hB,h⟩
 |o::l,k,listed,a,w,hl,nJ,Ex,hB,ht,h=>by
  have h0:ops[k]?=zb o:=by simpa using (hl 0 (by simp)).symm
  simp only[List.length_cons,wH,Bool.and_eq_true,beq_iff_eq]at hB;simp only[List.length_cons]at ht Ex;have RS:k<listed.size:=by
   rcases Nat.lt_or_ge k listed.size with h'|h'
   ·exact h'
   ·have:=Ex k (Nat.le_refl _) (by omega);simp[Array.getElem?_eq_none h']at this
  have ih:=λa w h=>zfU (t:=t) l (k+1) (listed.setIfInBounds k true) a w (λj hj=>by have:=hl (j+1) (by simp;omega);simpa [Nat.add_assoc,Nat.add_comm 1 j]using this)
   (λj hj=>by
    by_cases e:k=j
    ·subst e;simp[RS]
    ·rw[CR e];exact nJ j (by omega))
   (λj h1 h2=>by rw[CR (by omega)];exact Ex j (by omega) (by omega)) hB.2 (by omega) h
  have NC:∀{p:Prop},(k<t->p)->(listed.setIfInBounds k true).getD t true=false->p:=λhp hf=>hp (by
   rcases Nat.lt_trichotomy k t with h1|h1|h1
   ·exact h1
   ·subst h1;simp[RS]at hf
   ·rw[CR (by omega),nJ t (by omega)]at hf;cases hf)
  refine⟨λe=>absurd e (by rw[hB.1];simp),λi hi=>?_⟩;rw[hB.1]at hi;have e:i=k:=by simpa using hi
  subst e;unfold wpOp;simp only[h0];unfold wJ at h
  by_cases hw:Region.wanted o (yielded ops a.tmps)=true
  ·rw[if_pos hw]at h ⊢;exact .inl (Oper.wp_mono (λa w h=>⟨NC h.1,ih a w h.2⟩) h)
  ·rw[if_neg hw]at h ⊢;exact⟨NC h.1,ih _ _ h.2⟩
def Pp(o:Oper):Bool:=match o.op with
 |.move _=>true
 |.assign _=>true
 |.load _ _=>true
 |.fieldAddr _ _ _=>true
 |.indexAddr _ _ _=>true
 |.binOp _ _ _ _ _=>true
 |_=>false
theorem zlP{s:Sem zc}{w w':za}{n:Next}(h:(do pure (Next.value (<-s)):Sem Next).run P w=.ok n w'):∃u,n=.value u:=by
 simp only[Sem.run_bind,Sem.run_pure]at h;cases hr:s.run P w with
 |ok u w1=>rw[hr]at h;simp only[Result.andThen]at h;injection h with h1;exact⟨u,h1.symm⟩
 |halt x w1=>rw[hr]at h;simp[Result.andThen]at h
theorem zpn{o:Oper}(h:Pp o=true){ρ:Operand->zc}{w w':za}{n:Next}(hr:(execOp ρ o).run P w=.ok n w'):∃u,n=.value u:=by
 obtain⟨dst,op,type,pos,after,guard⟩:=o;cases op<;>simp only[Pp,Bool.false_eq_true]at h
 all_goals (simp only[execOp]at hr)
 case move x=>rw[Sem.run_pure]at hr;injection hr with h1;exact⟨_,h1.symm⟩
 case assign x=>rw[Sem.run_pure]at hr;injection hr with h1;exact⟨_,h1.symm⟩
 all_goals exact zlP hr
theorem zke{o:Oper}{a:Act}{K:Act->Prop}(hb:Pp o=true)(hw:Region.wanted o (yielded ops a.tmps)=true)(h:o.quiet P a C K):∃v,sM P ops C o v a/\K (a.put o.dst v):=by
 obtain⟨v,h1,h2⟩:=h;refine⟨v,.inl ⟨hw,λw hC=>?_⟩,h2⟩;have h3:=h1 w hC;unfold Oper.quietAt at h3;cases hr:(execOp a.eval o).run P w with
 |ok n w'=>
  obtain⟨u,rfl⟩:=zpn hb hr;rw[hr]at h3;obtain⟨e1,e2⟩:=h3;rw[e1,e2]
 |halt x w'=>rw[hr]at h3;exact h3.elim
def N7(md:Region.Mode)(ops:Array Oper)(n:Nat):Nat->Nat->Array Bool->Bool
 |0,_,listed=>wH md ops (ops.size-n) n listed
 |fuel+1,k,listed=>(Region.ready md ops listed).contains k&&Region.free md ops listed k&&N7 md ops n fuel (k+1) (listed.setIfInBounds k true)
def zuQ(md:Region.Mode)(all:List Oper)(n t:Nat):Bool:=
 Region.noSelect all.toArray&&(List.range n).all (λi=>sR md all.toArray 8 t i)&&(all.take n).all Pp&&N7 md all.toArray n n 0 (Array.replicate all.length false)&&decide (n<=t)&&decide (t<all.length)
theorem zjw{n t:Nat}{all:List Oper}(hs:Region.noSelect all.toArray=true)(hn:∀i,i<n->sR md all.toArray 8 t i=true)(NE:n<=t)(CA:t<all.length)(hQ:∀c a a' w,Q (.panic c) a w->Q (.panic c) a' w):
  ∀(l:List Oper) (k:Nat) (listed:Array Bool) (a:Act) (w:za),oP md all.toArray listed->(∀j,j<l.length->l[j]?=all.toArray[k+j]?)->k+l.length=n->(∀j,j<k->listed.getD j true=true)->(∀j,k<=j->j<all.length->listed.getD j true=false)->(∀o∈l,Pp o=true)->
   N7 md all.toArray n l.length k listed=true->C w->wpQuiet P all.toArray C (λa'=>∀w',C w'->∀r,r=all.drop n->wJ P all.toArray C t Q n r a' w') l a->Bd P md all.toArray C t Q (l.length+(all.length-n)) listed a w
 |[],k,listed,a,w,aV,hl,kz,nJ,Ex,_,hB,hC,h=>by
  simp only[List.length_nil,Nat.add_zero]at kz;subst kz;have vZ:(all.drop k).length=all.length-k:=by rw[List.length_drop]
  have:=zfU (P:=P) (C:=C) (Q:=Q) (t:=t) (all.drop k) k listed a w (λj _=>by simp[List.getElem?_drop]) nJ (λj h1 h2=>Ex j h1 (by rw[vZ]at h2;omega)) (by rw[vZ];simpa [N7]using hB) (by rw[vZ];omega) (h w hC _ rfl);rw[vZ]at this
  simpa using this
 |o::l,k,listed,a,w,aV,hl,kz,nJ,Ex,qD,hB,hC,h=>by
  have h0:all.toArray[k]?=zb o:=by simpa using (hl 0 (by simp)).symm
  simp only[List.length_cons,N7,Bool.and_eq_true]at hB;obtain⟨⟨hr,hf⟩,B6⟩:=hB;simp only[List.length_cons]at kz;have dC:k∈Region.ready md all.toArray listed:=by simpa using hr
  have RS:k<listed.size:=by
   rcases Nat.lt_or_ge k listed.size with h'|h'
   ·exact h'
   ·have:=Ex k (Nat.le_refl _) (by omega);simp[Array.getElem?_eq_none h']at this
  have next:∀v,sM P all.toArray C o v a->wpQuiet P all.toArray C (λa'=>∀w',C w'->∀r,r=all.drop n->wJ P all.toArray C t Q n r a' w') l (a.put o.dst v)->Bd P md all.toArray C t Q ((o::l).length+(all.length-n)) listed a w:=λv hy hk=>by
   have ih:=zjw hs hn NE CA hQ l (k+1) (listed.setIfInBounds k true) (a.put o.dst v) w (aV.set dC) (λj hj=>by have:=hl (j+1) (by simp;omega);simpa [Nat.add_assoc,Nat.add_comm 1 j]using this) (by omega)
    (λj hj=>by
     by_cases e:k=j
     ·subst e;simp[RS]
     ·rw[CR e];exact nJ j (by omega))
    (λj h1 h2=>by rw[CR (by omega)];exact Ex j (by omega) h2) (λo ho=>qD o (by simp[ho])) B6 hC hk
   rw[show (o::l).length+(all.length-n)=(l.length+(all.length-n))+1 by simp;omega];exact ziq h0 (by omega) (λL hc hl=>KI hc 8 t k hl (hn k (by omega))) (Region.noSelect_spec hs) hQ _ listed a w aV (Region.free_spec h0 hf) dC hy hC ih
  unfold wpQuiet at h
  by_cases hw:Region.wanted o (yielded all.toArray a.tmps)=true
  ·rw[if_pos hw]at h;obtain⟨v,hy,hk⟩:=zke (qD o (by simp)) hw h;exact next v hy hk
  ·rw[if_neg hw]at h;exact next undef (.inr ⟨by simpa using hw,rfl⟩) h
theorem ziK(n t:Nat){id:Nat}{a:Act}{w:za}{all:List Oper}(C:za->Prop)(hm:P.follows .mixedOrders=true)(hC:C w.drew)(hB:zuQ .any all n t=true)(hQ:∀c a a' w,Q (.panic c) a w->Q (.panic c) a' w)
  (h:∀l,l=all.take n->wpQuiet P all.toArray C (λa'=>∀w',C w'->∀r,r=all.drop n->wJ P all.toArray C t Q n r a' w') l a):(Code.region id all.toArray true).wp P Q a w:=by
 simp only[zuQ,Bool.and_eq_true,List.all_eq_true,List.mem_range,decide_eq_true_eq]at hB;obtain⟨⟨⟨⟨⟨hs,hn⟩,qD⟩,Cn⟩,NE⟩,CA⟩:=hB;have hlt:(all.take n).length=n:=by rw[List.length_take];omega
 refine wp_region_any hm ?_;have h1:=zjw (P:=P) (C:=C) (Q:=Q) (md:=.any) hs hn NE CA hQ (all.take n) 0 (Array.replicate all.toArray.size false) a w.drew (oP.start _ _) (λj hj=>by rw[hlt]at hj;simp[hj]) (by omega) (λj hj=>absurd hj (Nat.not_lt_zero _)) (λj _ hj=>by simp[hj]) (λo ho=>qD o ho) (by rw[hlt];simpa using Cn) hC (h _ rfl);have h2:=Z7 _ _ _ _ h1;rw[hlt,show n+(all.length-n)=all.length by omega]at h2
 simpa using h2
theorem Te{t k:Nat}{o:Oper}{rest:List Oper}{a:Act}{w:za}(hg:o.guard=zd)(h:∀K:Act->za->Prop,(∀a' w',(k<t->C w')->wJ P ops C t Q (k+1) rest a' w'->K a' w')->o.wp P a w K Q):wJ P ops C t Q k (o::rest) a w:=by
 unfold wJ;rw[if_pos (by simp[Region.wanted,hg])];exact h _ (λ_ _ h1 h2=>⟨h1,h2⟩)
theorem Td{t:Nat}:∀(l:List Oper) (k:Nat) (a:Act) (w:za),t<=k->(∀a w,¬Q .outgrown a w)->wpList P ops Q l a w->wJ P ops C t Q k l a w
 |[],_,_,_,_,_,h=>h
 |o::l,k,a,w,hk,hL,h=>by
  unfold wpList at h;unfold wJ
  by_cases hw:Region.wanted o (yielded ops a.tmps)=true
  ·rw[if_pos hw]at h ⊢;rcases h with h|h
   ·exact Oper.wp_mono (λa w h=>⟨λe=>absurd e (by omega),Td l (k+1) a w (by omega) hL h⟩) h
   ·obtain⟨_,a',w',h'⟩:=h;exact absurd h' (hL a' w')
  ·rw[if_neg hw]at h ⊢;exact⟨λe=>absurd e (by omega),Td l (k+1) _ w (by omega) hL h⟩
def Bi(Q:Exit->Act->za->Prop):Exit->Act->za->Prop
 |.panic _,_,_=>False
 |.outgrown,_,_=>False
 |.normal,a,w=>Q .normal a w
 |.ret,a,w=>Q .ret a w
 |.exit id,a,w=>Q (.exit id) a w
 |.goto l,a,w=>Q (.goto l) a w
theorem qc{Q:Exit->Act->za->Prop}{a:Act}{w:za}:Bi Q .normal a w=Q .normal a w:=rfl
theorem ZI{Q:Exit->Act->za->Prop}:∀e a w,Bi Q e a w->Q e a w:=λe a w h=>by
 cases e with
 |panic c=>exact h.elim
 |outgrown=>exact h.elim
 |normal=>exact h
 |ret=>exact h
 |exit id=>exact h
 |goto l=>exact h
theorem zeH(n t:Nat){id:Nat}{a:Act}{w:za}{all:List Oper}(C:za->Prop)(hm:P.follows .mixedOrders=true)(hC:C w.drew)(hB:zuQ .any all n t=true)
  (h:∀l,l=all.take n->wpQuiet P all.toArray C (λa'=>∀w',C w'->∀r,r=all.drop n->wJ P all.toArray C t (Bi Q) n r a' w') l a):(Code.region id all.toArray true).wp P Q a w:=
 wp_mono (ziK n t C hm hC hB (λ_ _ _ _ h=>h.elim) h) ZI
end
end
section
variable {P:Program}{ops:Array Oper}{o:Oper}{a:Act}{w:za}{K:Act -> za -> Prop}{Q:Exit -> Act -> za -> Prop}{E:Prop}
theorem zrG(fQ:o.guard=zd)(f:FuncId)(xs:Array Operand)(ats:Array zh)
  (ho:o.op=.call {callee:=.value (.func f),args:=xs,argTypes:=ats}) (args:Array zc) (El:(#[]++xs.map a.eval++#[]:Array zc)=args) (v:zc) (R:za->Prop) (iC:(callFunc f args).run P w=.ok (.enter f args) w)
  (hc:zg P f args w λe w'=>e=.returned v/\R w') (h:∀w',R w'->K (a.put o.dst v) w'):
  if Region.wanted o (yielded ops a.tmps)=true then Oper.wp P o a w K Q else E:=by
 have hw:Region.wanted o (yielded ops a.tmps)=true:=by simp[Region.wanted,fQ]
 rw[af hw];obtain⟨dst,op,type,pos,after,guard⟩:=o;simp only at ho;subst ho;unfold Oper.wp;rw[execOp_call_go,El];rw[iC,Oper.upon_enter];refine hc.mono ?_;rintro e w' ⟨rfl,hR⟩;exact h w' hR
theorem zoj(fQ:o.guard=zd)(f:FuncId)(x y:Operand)(ats:Array zh)
  (ho:o.op=.call {callee:=.value (.func f),args:=#[x,y],argTypes:=ats}) (u t:zc) (hu:a.eval x=u) (ht:a.eval y=t) (v:zc) (R:za->Prop) (iC:(callFunc f #[u,t]).run P w=.ok (.enter f #[u,t]) w)
  (hc:zg P f #[u,t] w λe w'=>e=.returned v/\R w') (h:∀w',R w'->K (a.put o.dst v) w'):
  if Region.wanted o (yielded ops a.tmps)=true then Oper.wp P o a w K Q else E:=
 zrG fQ f #[x,y] ats ho #[u,t] (by simp[hu,ht]) v R iC hc h
theorem zl3(fQ:o.guard=zd)(f:FuncId)(x y:Operand)(ats:Array zh)
  (ho:o.op=.call {callee:=.value (.func f),args:=#[x,y],argTypes:=ats}) (u t:zc) (hu:a.eval x=u) (ht:a.eval y=t) (c:List PanicEntry) (R:za->Prop) (iC:(callFunc f #[u,t]).run P w=.ok (.enter f #[u,t]) w)
  (hc:zg P f #[u,t] w λe w'=>e=.panicked c/\R w') (h:∀w',R w'->Q (.panic c) a w') (_:Hid False->K a w):
  if Region.wanted o (yielded ops a.tmps)=true then Oper.wp P o a w K Q else E:=by
 have hw:Region.wanted o (yielded ops a.tmps)=true:=by simp[Region.wanted,fQ]
 rw[af hw];obtain⟨dst,op,type,pos,after,guard⟩:=o;simp only at ho;subst ho;unfold Oper.wp;rw[execOp_call_go,show (#[]++#[x,y].map a.eval++#[]:Array zc)=#[u,t] by simp[hu,ht]];rw[iC,Oper.upon_enter];refine hc.mono ?_;rintro e w' ⟨rfl,hR⟩;exact h w' hR
end
section
open Go
section
variable {P:Program} {ops:Array Oper} {md:Region.Mode} {C:za->Prop} {Q:Exit->Act->za->Prop}
def O4(md:Region.Mode)(ops:Array Oper):List Nat->Array Bool->Bool
 |[],listed=>(Region.ready md ops listed).isEmpty
 |j::js,listed=>(Region.ready md ops listed == [j])&&O4 md ops js (listed.setIfInBounds j true)
def sN(P:Program)(ops:Array Oper)(C:za->Prop)(t:Nat)(Q:Exit->Act->za->Prop):List (Nat×Oper)->Act->za->Prop
 |[],a,w=>Q .normal a w
 |(_,o)::rest,a,w=>if Region.wanted o (yielded ops a.tmps) then o.wp P a w (λa' w'=>(t∈rest.map Prod.fst->C w')/\sN P ops C t Q rest a' w') Q else (t∈rest.map Prod.fst->C w)/\sN P ops C t Q rest (a.put o.dst undef) w
theorem ze3{t:Nat}:∀(js:List Nat) (l:List (Nat×Oper)) (listed:Array Bool) (a:Act) (w:za),l.map Prod.fst=js->(∀x∈l,ops[x.1]?=zb x.2)->(∀k,listed.getD k true=false->k∈js)->O4 md ops js listed=true->sN P ops C t Q l a w->Bd P md ops C t Q l.length listed a w
 |[],[],listed,_,_,_,_,_,hB,h=>by
  simp only[O4,List.isEmpty_iff]at hB;exact⟨hB,h⟩
 |j::js,(j',o)::l,listed,a,w,hl,ho,hk,hB,h=>by
  obtain⟨rfl,zC⟩:j'=j/\l.map Prod.fst=js:=by simpa using hl
  simp only[O4,fI,beq_iff_eq]at hB;have h0:ops[j']?=zb o:=ho (j',o) (by simp);have bC:∀k,(listed.setIfInBounds j' true).getD k true=false->k∈js:=λk hf=>by
   by_cases e:j'=k
   ·subst e;rcases iX j' listed.size with h'|h'
    ·simp[h']at hf
    ·simp at hf
   ·rw[CR e]at hf;rcases pD.1 (hk k hf) with h1|h1
    ·exact absurd h1.symm e
    ·exact h1
  have ih:=λa w h=>ze3 (t:=t) js l (listed.setIfInBounds j' true) a w zC (λx hx=>ho x (by simp[hx])) bC hB.2 h
  have NC:∀{p:Prop},(t∈l.map Prod.fst->p)->(listed.setIfInBounds j' true).getD t true=false->p:=λhp hf=>hp (by rw[zC];exact bC t hf)
  refine⟨λe=>absurd e (by rw[hB.1];simp),λi hi=>?_⟩;rw[hB.1]at hi;have e:i=j':=by simpa using hi
  subst e;unfold wpOp;simp only[h0];unfold sN at h
  by_cases hw:Region.wanted o (yielded ops a.tmps)=true
  ·rw[af hw]at h ⊢;exact .inl (Oper.wp_mono (λa w h=>⟨NC h.1,ih a w h.2⟩) h)
  ·rw[ab hw]at h ⊢;exact⟨NC h.1,ih _ _ h.2⟩
 |[],(_,_)::_,_,_,_,h,_,_,_,_=>by simp at h
 |_::_,[],_,_,_,h,_,_,_,_=>by simp at h
theorem yk{o:Oper}{a:Act}{w:za}{K:Act->za->Prop}(f:FuncId)(xs:Array Operand)(ats:Array zh)
  (ho:o.op=.call {callee:=.value (.func f),args:=xs,argTypes:=ats}) (args:Array zc) (El:(#[]++xs.map a.eval++#[]:Array zc)=args) (R:zc->za->Prop) (iC:(callFunc f args).run P w=.ok (.enter f args) w)
  (hc:zg P f args w λe w'=>∃v,e=.returned v/\R v w') (h:∀v w',R v w'->K (a.put o.dst v) w'):Oper.wp P o a w K Q:=by
 obtain⟨dst,op,type,pos,after,guard⟩:=o;simp only at ho;subst ho;unfold Oper.wp;rw[execOp_call_go,El];rw[iC,Oper.upon_enter];refine hc.mono ?_;rintro e w' ⟨v,rfl,hR⟩;exact h v w' hR
theorem mj{t j:Nat}{o:Oper}{rest:List (Nat×Oper)}{a:Act}{w:za}(hg:o.guard=zd)(h:∀K:Act->za->Prop,(∀a' w',(t∈rest.map Prod.fst->C w')->sN P ops C t Q rest a' w'->K a' w')->o.wp P a w K Q):sN P ops C t Q ((j,o)::rest) a w:=by
 unfold sN;rw[af (by simp[Region.wanted,hg])];exact h _ (λ_ _ h1 h2=>⟨h1,h2⟩)
theorem Tf{t:Nat}:∀(l:List (Nat×Oper)) (a:Act) (w:za),t∉l.map Prod.fst->(∀a w,¬Q .outgrown a w)->wpList P ops Q (l.map Prod.snd) a w->sN P ops C t Q l a w
 |[],_,_,_,_,h=>h
 |(j,o)::l,a,w,hk,hL,h=>by
  simp only[Dm]at h hk;have bC:t∉l.map Prod.fst:=λe=>hk (by simp[e])
  unfold wpList at h;unfold sN
  by_cases hw:Region.wanted o (yielded ops a.tmps)=true
  ·rw[af hw]at h ⊢;rcases h with h|h
   ·exact Oper.wp_mono (λa w h=>⟨λe=>absurd e bC,Tf l a w bC hL h⟩) h
   ·obtain⟨_,a',w',h'⟩:=h;exact absurd h' (hL a' w')
  ·rw[ab hw]at h ⊢;exact⟨λe=>absurd e bC,Tf l _ w bC hL h⟩
end
end
section
open Go
section
variable {P:Program} {ops:Array Oper} {md:Region.Mode} {C:za->Prop} {Q:Exit->Act->za->Prop}
def zry(l:Array Bool):List Nat->Array Bool
 |[]=>l
 |i::is=>zry (l.setIfInBounds i true) is
def zqg(md:Region.Mode)(ops:Array Oper):List Nat->Array Bool->Bool
 |[],_=>true
 |j::js,listed=>(Region.ready md ops listed == [j])&&zqg md ops js (listed.setIfInBounds j true)
def Fw(o:Oper):Bool:=match o.op with
 |.move _=>true
 |.assign _=>true
 |.load _ _=>true
 |.fieldAddr _ _ _=>true
 |.indexAddr _ _ _=>true
 |.binOp _ _ _ _ _=>true
 |.nilCheck _=>true
 |.slice _ _ _ _ _=>true
 |_=>false
theorem zm9{o:Oper}(h:Fw o=true){ρ:Operand->zc}{w w':za}{n:Next}(hr:(execOp ρ o).run P w=.ok n w'):∃u,n=.value u:=by
 obtain⟨dst,op,type,pos,after,guard⟩:=o;cases op<;>simp only[Fw,Bool.false_eq_true]at h
 all_goals (simp only[execOp]at hr)
 case move x=>rw[Sem.run_pure]at hr;injection hr with h1;exact⟨_,h1.symm⟩
 case assign x=>rw[Sem.run_pure]at hr;injection hr with h1;exact⟨_,h1.symm⟩
 case nilCheck x=>
  split at hr
  case h_4=>
   split at hr
   case h_1=>simp[runtimePanic,go_sem]at hr
   case h_2=>
    simp only[Sem.run_bind]at hr;generalize Sem.run P program w=r1 at hr;cases r1 with
    |halt x w1=>simp[Result.andThen]at hr
    |ok a w1=>
     simp only[Result.andThen]at hr;generalize Sem.run P (nilAhead _ _ _ _) w1=r2 at hr;cases r2 with
     |halt x w2=>simp at hr
     |ok b w2=>
      simp only at hr;split at hr
      ·simp[unsupported,go_sem]at hr
      ·rw[Sem.run_pure]at hr;injection hr with h1;exact⟨_,h1.symm⟩
   case h_3=>rw[Sem.run_pure]at hr;injection hr with h1;exact⟨_,h1.symm⟩
  case h_5=>rw[Sem.run_pure]at hr;injection hr with h1;exact⟨_,h1.symm⟩
  all_goals (simp[runtimePanic,go_sem]at hr)
 all_goals exact zlP hr
theorem ziE{o:Oper}{a:Act}{K:Act->Prop}(hb:Fw o=true)(hw:Region.wanted o (yielded ops a.tmps)=true)(h:o.quiet P a C K):∃v,sM P ops C o v a/\K (a.put o.dst v):=by
 obtain⟨v,h1,h2⟩:=h;refine⟨v,.inl ⟨hw,λw hC=>?_⟩,h2⟩;have h3:=h1 w hC;unfold Oper.quietAt at h3;cases hr:(execOp a.eval o).run P w with
 |ok n w'=>
  obtain⟨u,rfl⟩:=zm9 hb hr;rw[hr]at h3;obtain⟨e1,e2⟩:=h3;rw[e1,e2]
 |halt x w'=>rw[hr]at h3;exact h3.elim
def zzN(md:Region.Mode)(ops:Array Oper)(js:List Nat):List Nat->Array Bool->Bool
 |[],listed=>zqg md ops js listed
 |i::is,listed=>(Region.ready md ops listed).contains i&&Region.free md ops listed i&&zzN md ops js is (listed.setIfInBounds i true)
def zvR(md:Region.Mode)(all:List Oper)(done:List Nat):Bool:=zzM md all.toArray done (Array.replicate all.length false)
 where zzM (md:Region.Mode) (ops:Array Oper):List Nat->Array Bool->Bool
 |[],_=>true
 |i::is,listed=>(Region.ready md ops listed).contains i&&zzM md ops is (listed.setIfInBounds i true)
def zEe(md:Region.Mode)(all:List Oper)(done is js:List Nat):Bool:=
 Region.noSelect all.toArray&&zvR md all done&&(match js with | []=>false|t::_=>is.all (λi=>sR md all.toArray 8 t i&&decide (t≠i)&&(match all[i]? with|some o=>Fw o|none=>false)))&&zzN md all.toArray js is (zry (Array.replicate all.length false) done)&&js.all (λj=>decide (j<all.length))
def Pk(md:Region.Mode)(ops:Array Oper)(js:List Nat):List Nat->Array Bool->Bool
 |[],listed=>O4 md ops js listed&&(List.range ops.size).all (λk=>listed.getD k true || js.contains k)
 |i::is,listed=>(Region.ready md ops listed).contains i&&Region.free md ops listed i&&Pk md ops js is (listed.setIfInBounds i true)
def Ul(md:Region.Mode)(all:List Oper)(is js:List Nat)(t:Nat):Bool:=
 Region.noSelect all.toArray&&is.all (λi=>sR md all.toArray 8 t i&&decide (t≠i)&&(match all[i]? with|some o=>Fw o|none=>false))&&Pk md all.toArray js is (Array.replicate all.length false)&&decide (is.length+js.length=all.length)&&js.all (λj=>decide (j<all.length))
theorem zgA{D:za->Prop}{t:Nat}{js:List Nat}{lj:List (Nat×Oper)}(hs:Region.noSelect ops=true)(si:lj.map Prod.fst=js)(qB:∀x∈lj,ops[x.1]?=zb x.2)(hQ:∀c a a' w,Q (.panic c) a w->Q (.panic c) a' w):
  ∀(is:List Nat) (l:List Oper) (listed:Array Bool) (a:Act) (w:za),oP md ops listed->listed.size=ops.size->l.length=is.length->(∀k,k<is.length->∃i o,is[k]?=zb i/\l[k]?=zb o/\ops[i]?=zb o/\Fw o=true/\sR md ops 8 t i=true/\t≠i)->
   Pk md ops js is listed=true->C w->D w->wpQuiet P ops C (λa'=>∀w',D w'->∀r,r=lj->sN P ops C t Q r a' w') l a->Bd P md ops C t Q (is.length+lj.length) listed a w
 |[],[],listed,a,w,aV,hsz,_,_,hB,_,hD,h=>by
  simp only[Pk,fI,jR,qm,nt,List.contains_iff_mem]at hB;rw[qU,iH];refine ze3 js lj listed a w si qB (λk hk=>?_) hB.1 (h w hD _ rfl);have hlt:k<ops.size:=by
   rcases iX k ops.size with h'|h'
   ·exact h'
   ·rw[<-hsz]at h';simp[Array.getElem?_eq_none h']at hk
  rcases hB.2 k hlt with h1|h1
  ·rw[hk]at h1;cases h1
  ·exact h1
 |i::is,o::l,listed,a,w,aV,hsz,uL,hio,hB,hC,hD,h=>by
  obtain⟨i',o',e1,e2,h0,qD,fG,Ki⟩:=hio 0 (by simp);simp at e1 e2;subst e1;subst e2;simp only[Pk,fI]at hB;obtain⟨⟨hr,hf⟩,B6⟩:=hB;have dC:i∈Region.ready md ops listed:=by simpa using hr
  have next:∀v,sM P ops C o v a->wpQuiet P ops C (λa'=>∀w',D w'->∀r,r=lj->sN P ops C t Q r a' w') l (a.put o.dst v)->Bd P md ops C t Q ((i::is).length+lj.length) listed a w:=λv hy hk=>by
   have ih:=zgA hs si qB hQ is l (listed.setIfInBounds i true) (a.put o.dst v) w (aV.set dC) (by simpa using hsz) (by simpa using uL) (λk hk=>by have:=hio (k+1) (by simp;omega);simpa using this) B6 hC hD hk;rw[show (i::is).length+lj.length=(is.length+lj.length)+1 by simp;omega];exact ziq h0 Ki (λL hc hl=>KI hc 8 t i hl fG) (Region.noSelect_spec hs) hQ _ listed a w aV (Region.free_spec h0 hf) dC hy hC ih
  unfold wpQuiet at h
  by_cases hw:Region.wanted o (yielded ops a.tmps)=true
  ·rw[af hw]at h;obtain⟨v,hy,hk⟩:=ziE qD hw h;exact next v hy hk
  ·rw[ab hw]at h;exact next undef (.inr ⟨by simpa using hw,rfl⟩) h
 |[],_::_,_,_,_,_,_,h,_,_,_,_,_=>by simp at h
 |_::_,[],_,_,_,_,_,h,_,_,_,_,_=>by simp at h
theorem zpv(is js:List Nat)(t:Nat){a:Act}{w:za}{all:List Oper}(C D:za->Prop)(hC:C w)(hD:D w)(hB:Ul .any all is js t=true)(hQ:∀c a a' w,Q (.panic c) a w->Q (.panic c) a' w)
  (h:∀l,l=is.filterMap (λi=>all[i]?)->wpQuiet P all.toArray C (λa'=>∀w',D w'->∀r,r=js.filterMap (λj=>(all[j]?).map λo=>(j,o))->sN P all.toArray C t Q r a' w') l a):wpAny P .any all.toArray Q all.toArray.size (Array.replicate all.toArray.size false) a w:=by
 simp only[Ul,fI,jR,lZ]at hB;obtain⟨⟨⟨⟨hs,hi⟩,Cn⟩,hlen⟩,hj⟩:=hB;have key:∀(is:List Nat),(∀x∈is,(sR .any all.toArray 8 t x=true/\t≠x)/\(match all[x]? with|some o=>Fw o|none=>false)=true)->(is.filterMap (λi=>all[i]?)).length=is.length/\∀k,k<is.length->∃i o,is[k]?=zb i/\(is.filterMap (λi=>all[i]?))[k]?=zb o/\all.toArray[i]?=zb o/\Fw o=true/\sR .any all.toArray 8 t i=true/\t≠i:=by
  intro is
  induction is with
  |nil=>intro _;exact⟨rfl,λk hk=>absurd hk (fw _)⟩
  |cons i is ih=>
   intro hx;obtain⟨⟨q1,q2⟩,q3⟩:=hx i (by simp);obtain⟨r1,r2⟩:=ih (λx Hi=>hx x (by simp[Hi]));cases ho:all[i]? with
   |none=>rw[ho]at q3;cases q3
   |some o=>
    rw[ho]at q3;have e:(i::is).filterMap (λi=>all[i]?)=o::is.filterMap (λi=>all[i]?):=by simp[ho]
    rw[e];refine⟨by simp[r1],λk hk=>?_⟩;cases k with
    |zero=>exact⟨i,o,rfl,rfl,by simpa using ho,q3,q1,q2⟩
    |succ k=>simpa using r2 k (by simpa using hk)
 have zCq:∀(js:List Nat),(∀j∈js,j<all.length)->(js.filterMap (λj=>(all[j]?).map λo=>(j,o))).map Prod.fst=js/\∀x∈js.filterMap (λj=>(all[j]?).map λo=>(j,o)),all.toArray[x.1]?=zb x.2:=by
  intro js
  induction js with
  |nil=>intro _;exact⟨rfl,λx hx=>by cases hx⟩
  |cons j js ih=>
   intro hx;obtain⟨r1,r2⟩:=ih (λx Hi=>hx x (by simp[Hi]));have hl:=hx j (by simp);have e:(j::js).filterMap (λj=>(all[j]?).map λo=>(j,o))=(j,all[j])::js.filterMap (λj=>(all[j]?).map λo=>(j,o)):=by simp[hl]
   rw[e];refine⟨by simp[r1],λx Hi=>?_⟩;rcases pD.1 Hi with rfl|Hi
   ·simp[hl]
   ·exact r2 x Hi
 obtain⟨k1,k2⟩:=key is (λx hx=>by
  obtain⟨⟨a1,a2⟩,a3⟩:=hi x hx;exact⟨⟨a1,a2⟩,a3⟩)
 obtain⟨j1,j2⟩:=zCq js hj;have mc:(js.filterMap (λj=>(all[j]?).map λo=>(j,o))).length=js.length:=by rw[<-lX (f:=Prod.fst),j1]
 have h1:=zgA (P:=P) (C:=C) (D:=D) (Q:=Q) (md:=.any) (t:=t) hs j1 j2 hQ is _ (Array.replicate all.toArray.size false) a w (oP.start _ _) (by simp) k1 k2 (by simpa using Cn) hC hD (h _ rfl);have h2:=Z7 _ _ _ _ h1;rw[mc,hlen]at h2
 simpa using h2
theorem tY(is js:List Nat)(t:Nat){id:Nat}{a:Act}{w:za}{all:List Oper}(C D:za->Prop)(hm:P.follows .mixedOrders=true)(hC:C w.drew)(hD:D w.drew)(hB:Ul .any all is js t=true)
  (h:∀l,l=is.filterMap (λi=>all[i]?)->wpQuiet P all.toArray C (λa'=>∀w',D w'->∀r,r=js.filterMap (λj=>(all[j]?).map λo=>(j,o))->sN P all.toArray C t (Bi Q) r a' w') l a):(Code.region id all.toArray true).wp P Q a w:=by
 refine wp_mono (wp_region_any hm ?_) ZI;exact zpv (Q:=Bi Q) is js t C D hC hD hB (λ_ _ _ _ h=>h.elim) h
theorem ziI(is js:List Nat)(t:Nat){id:Nat}{a:Act}{w:za}{all:List Oper}(C:za->Prop)(hm:P.follows .mixedOrders=true)(hC:C w.drew)(hB:Ul .any all is js t=true)
  (h:∀l,l=is.filterMap (λi=>all[i]?)->wpQuiet P all.toArray C (λa'=>∀w',C w'->∀r,r=js.filterMap (λj=>(all[j]?).map λo=>(j,o))->sN P all.toArray C t (Bi Q) r a' w') l a):(Code.region id all.toArray true).wp P Q a w:=by
 exact tY is js t C C hm hC hC hB h
end
end
section
open Go
section
variable {P:Program} {md:Region.Mode} {ops:Array Oper} {Q:Exit->Act->za->Prop}
def Um(md:Region.Mode)(ops:Array Oper):Bool:=(List.range ops.size).all λi=>match ops[i]? with
 |some o=>o.guard.isNone&&o.after.all (λe=>!Region.binds md e || decide (e.on<i))
 |none=>true
def vK(l:Nat->Bool):Nat->Nat
 |0=>0
 |n+1=>vK l n+(if l n=true then 0 else 1)
theorem zkJ(l:Nat->Bool)(i:Nat):∀n,n<=i->vK (λj=>l j || j==i) n=vK l n
 |0,_=>rfl
 |n+1,h=>by
  have e:(n==i)=false:=by simp;omega
  simp only[vK,zkJ l i n (by omega),e,Bool.or_false]
theorem znB(l:Nat->Bool)(i:Nat)(hl:l i=false):∀n,i<n->vK (λj=>l j || j==i) n+1=vK l n
 |0,h=>absurd h (fw _)
 |n+1,h=>by
  by_cases e:n=i
  ·subst e;simp[vK,zkJ l n n (Nat.le_refl _),hl]
  ·have e1:(n==i)=false:=by simpa using e
   have:=znB l i hl n (by omega);simp only[vK,e1,Bool.or_false];omega
theorem zkK(l:Nat->Bool):∀n,vK l n=0->∀i,i<n->l i=true
 |0,_,i,h=>absurd h (fw _)
 |n+1,h,i,hi=>by
  simp only[vK]at h
  by_cases hn:l n=true
  ·by_cases e:i=n
   ·rw[e];exact hn
   ·exact zkK l n (by omega) i (by omega)
  ·rw[ab hn]at h;omega
theorem zre{listed:Array Bool}(hB:Um md ops=true)(hr:Region.ready md ops listed=[])(hs:listed.size=ops.size):∀n i,i<=n->i<ops.size->listed.getD i false=true:=by
 intro n
 induction n with
 |zero=>
  intro i hi hl;obtain rfl:i=0:=by omega
  cases h:listed.getD 0 false with
  |true=>rfl
  |false=>
   exfalso
   have hm:(0:Nat)∈Region.ready md ops listed:=by
    refine mem_ready.2 ⟨?_,ops[0],by simp[hl],λe he hb=>?_⟩
    ·rw[Pr]at h ⊢;rw[FB (by omega)]at h ⊢;exact h
    ·have h1:=jR.1 hB 0 (qm.2 hl);simp only[FB hl,fI,Array.all_eq_true']at h1;have h2:=h1.2 e he;rw[hb]at h2;simp at h2
   rw[hr]at hm;cases hm
 |succ n ih=>
  intro i hi hl
  by_cases e1:i<=n
  ·exact ih i e1 hl
  ·cases h:listed.getD i false with
   |true=>rfl
   |false=>
    exfalso
    have hm:i∈Region.ready md ops listed:=by
     refine mem_ready.2 ⟨?_,ops[i],by simp[hl],λe he hb=>?_⟩
     ·rw[Pr]at h ⊢;rw[FB (by omega)]at h ⊢;exact h
     ·have h1:=jR.1 hB i (qm.2 hl);simp only[FB hl,fI,Array.all_eq_true']at h1;have h2:=h1.2 e he;rw[hb]at h2;simp at h2;exact ih e.on (by omega) (by omega)
    rw[hr]at hm;cases hm
theorem zmi(J:(Nat->Bool)->Act->za->Prop)(hB:Um md ops=true)
  (hstep:∀l a w i o,J l a w->ops[i]?=zb o->l i=false->(∀e∈o.after,Region.binds md e=true->l e.on=true)->o.wp P a w (λa' w'=>J (λj=>l j || j==i) a' w') Q)
  (Ng:∀l a w,J l a w->(∀i,i<ops.size->l i=true)->Q .normal a w):
  ∀(fuel:Nat) (listed:Array Bool) (a:Act) (w:za),listed.size=ops.size->vK (λj=>listed.getD j false) ops.size<=fuel->J (λj=>listed.getD j false) a w->wpAny P md ops Q fuel listed a w
 |0,listed,a,w,hs,hc,hJ=>by
  have bm:=zkK (λj=>listed.getD j false) ops.size (by omega);refine⟨List.eq_nil_iff_forall_not_mem.2 λj hj=>?_,Ng _ a w hJ bm⟩;obtain⟨h1,o,ho,-⟩:=mem_ready.1 hj;have hj:j<ops.size:=(lU.1 ho).1;have h2:=bm j hj;simp only[Pr,FB (show j<listed.size by omega),Option.getD_some]at h1 h2;rw[h1]at h2;cases h2
 |fuel+1,listed,a,w,hs,hc,hJ=>by
  refine⟨λhr=>Ng _ a w hJ λi hi=>zre hB hr hs i i (aq _) hi,λi hi=>?_⟩;obtain⟨h1,o,ho,bm⟩:=mem_ready.1 hi;have J0:i<ops.size:=(lU.1 ho).1;have hg:=jR.1 hB i (qm.2 J0);simp only[ho,fI]at hg;have hl:listed.getD i false=false:=by
   simp only[Pr,FB (show i<listed.size by omega),Option.getD_some]at h1 ⊢;exact h1
  have EL:(λj=>(listed.setIfInBounds i true).getD j false)=λj=>listed.getD j false || j==i:=by
   funext j
   by_cases e:j=i
   ·subst e;simp[Array.getD_eq_getD_getElem?,show j<listed.size by omega]
   ·have e1:(j==i)=false:=by simpa using e
    simp[Array.getD_eq_getD_getElem?,Ne.symm e,e1]
  unfold wpOp;simp only[ho];rw[af (by have:=hg.1;simp[Region.wanted];rw[Option.isNone_iff_eq_none.1 this])];refine .inl (Oper.wp_mono (λa' w' hJ'=>?_) (hstep _ a w i o hJ ho hl bm));refine zmi J hB hstep Ng fuel _ a' w' (by simp[hs]) ?_ (by rw[EL];exact hJ');rw[EL];have:=znB (λj=>listed.getD j false) i hl ops.size J0;omega
theorem zpX(l:Nat->Bool):∀n,vK l n<=n
 |0=>aq _
 |n+1=>by have:=zpX l n;simp only[vK];split<;>omega
theorem zkv{id:Nat}{a:Act}{w:za}{all:List Oper}(J:(Nat->Bool)->Act->za->Prop)(hm:P.follows .mixedOrders=true)(hB:Um .any all.toArray=true)(h0:J (λ_=>false) a w.drew)
  (hstep:∀l a w i o,J l a w->all[i]?=zb o->l i=false->(∀e∈o.after,Region.binds .any e=true->l e.on=true)->o.wp P a w (λa' w'=>J (λj=>l j || j==i) a' w') (Bi Q))
  (Ng:∀l a w,J l a w->(∀i,i<all.length->l i=true)->Q .normal a w):(Code.region id all.toArray true).wp P Q a w:=by
 refine wp_mono (wp_region_any hm ?_) ZI;refine zmi (Q:=Bi Q) J hB (λl a w i o h1 h2=>hstep l a w i o h1 (by simpa using h2)) (λl a w h1 h2=>?_) _ _ a w.drew (by simp) ?_ ?_
 ·rw[qc];exact Ng l a w h1 (by simpa using h2)
 ·have:=zpX (λj=>(Array.replicate all.toArray.size false).getD j false) all.toArray.size
  simpa using this
 ·have e:(λj=>(Array.replicate all.toArray.size false).getD j false)=λ_=>false:=by
   funext j
   simp[Array.getD_eq_getD_getElem?,Array.getElem?_replicate];split<;>rfl
  rw[e];exact h0
theorem ztR{a b:Act}(h1:a.defers=b.defers)(h2:a.tmps.size=b.tmps.size)(h3:∀s,a.eval (.tmp s)=b.eval (.tmp s)):a=b:=by
 obtain⟨t1,d1⟩:=a;obtain⟨t2,d2⟩:=b;have e:t1=t2:=by
  apply Array.ext h2
  intro i dg pg;have:=h3 i;simp only[Act.eval,Pr,FB dg,FB pg,Option.getD_some]at this;exact this
 subst e;simp only at h1;subst h1
 rfl
structure Dr(a0 a:Act)(D:List Nat):Prop where
 df:a.defers=a0.defers
 sz:a.tmps.size=a0.tmps.size
 ev:∀s,s∉D->a.eval (.tmp s)=a0.eval (.tmp s)
theorem Dr.refl(a:Act)(D:List Nat):Dr a a D:=⟨rfl,rfl,λ_ _=>rfl⟩
theorem Dr.put{a0 a:Act}{D:List Nat}(h:Dr a0 a D){d:Nat}(hd:d∈D)(v:zc):Dr a0 (a.put (zb d) v) D:=
 ⟨h.df,by simp[Act.put,h.sz],λs hs=>(Act.eval_put (λe he=>by injection he with he;subst he;intro e2;injection e2 with e2;subst e2;exact hs hd)).trans (h.ev s hs)⟩
theorem Ty{a:Act}{d:Nat}{v:zc}(h:d<a.tmps.size):(a.put (zb d) v).eval (.tmp d)=v:=by
 simp[Act.put,Act.eval,h]
theorem ziV{a:Act}{d s:Nat}{v:zc}(h:s≠d):(a.put (zb d) v).eval (.tmp s)=a.eval (.tmp s):=
 Act.eval_put (λe he=>by injection he with he;subst he;intro e2;injection e2 with e2;exact h e2)
theorem zjC:∀(ps:List (Nat×zc)) (a0 a:Act),Dr a0 a (ps.map Prod.fst)->(∀p∈ps,p.1<a0.tmps.size/\a.eval (.tmp p.1)=p.2)->a=ps.foldl (λa p=>a.put (zb p.1) p.2) a0
 |[],a0,a,h,_=>ztR h.df h.sz λs=>h.ev s (by simp)
 |p::ps,a0,a,h,hv=>by
  have h1:=hv p (by simp);refine zjC ps (a0.put (zb p.1) p.2) a ⟨h.df,by simp[Act.put,h.sz],λs hs=>?_⟩ λq hq=>⟨by simp[Act.put];exact(hv q (by simp[hq])).1,(hv q (by simp[hq])).2⟩
  by_cases e:s=p.1
  ·subst e;rw[Ty h1.1];exact h1.2
  ·rw[ziV e];exact h.ev s (by simp only[Dm,pD,not_or];exact⟨e,hs⟩)
end
end
section
open Go
section
variable {P:Program} {Q:Exit->Act->za->Prop}
def BV(md:Region.Mode)(o:Oper):List Nat:=(o.after.toList.filter λe=>Region.binds md e).map λe=>e.on
theorem zt4{md:Region.Mode}{o:Oper}{l:Nat->Bool}(h:∀e∈o.after,Region.binds md e=true->l e.on=true):∀j∈BV md o,l j=true:=by
 intro j hj;simp only[BV,Am,List.mem_filter,Array.mem_toList_iff]at hj;obtain⟨e,⟨he,hb⟩,rfl⟩:=hj;exact h e he hb
def Pf(md:Region.Mode)(all:List Oper)(s:List Nat):Nat->List Nat
 |0=>s
 |k+1=>Pf md all s k++(Pf md all s k).flatMap λj=>match all[j]? with
  |some o=>BV md o
  |none=>[]
def zxY(md:Region.Mode)(all:List Oper)(n:Nat):Bool:=match all[n]? with
 |some o=>(List.range n).all λj=>(Pf md all (BV md o) n).contains j
 |none=>false
theorem zh9{md:Region.Mode}{all:List Oper}{l:Nat->Bool}(hc:∀j o,all[j]?=zb o->l j=true->∀i∈BV md o,l i=true){s:List Nat}(hs:∀j∈s,l j=true):∀k,∀j∈Pf md all s k,l j=true
 |0,j,hj=>hs j hj
 |k+1,j,hj=>by
  rw[Pf,gH]at hj;rcases hj with hj|hj
  ·exact zh9 hc hs k j hj
  ·rw[List.mem_flatMap]at hj;obtain⟨i,hi,hj⟩:=hj;cases ho:all[i]? with
   |none=>rw[ho]at hj;cases hj
   |some o=>rw[ho]at hj;exact hc i o ho (zh9 hc hs k i hi) j hj
structure Uo(a0:Act)(S:List (Nat×Nat))(all:List Oper)(I:(Nat->Bool)->za->Prop)(Φ:Nat->zc->za->Prop)(l:Nat->Bool)(a:Act)(w:za):Prop where
 inv:I l w
 act:Dr a0 a (S.map Prod.snd)
 val:∀q∈S,l q.1=true->Φ q.1 (a.eval (.tmp q.2)) w
 apart:∀q∈S,∀r∈S,l q.1=true->l r.1=true->q≠r->∀b,(a.eval (.tmp q.2)).ownBlock=zb b->(a.eval (.tmp r.2)).ownBlock≠zb b
 zyb:∀j o,all[j]?=zb o->l j=true->∀i∈BV .any o,l i=true
theorem zfW{id:Nat}{a0:Act}{w:za}{all:List Oper}(n:Nat)(S:List (Nat×Nat))(I:(Nat->Bool)->za->Prop)(Φ:Nat->zc->za->Prop)(hm:P.follows .mixedOrders=true)(hB:Um .any all.toArray=true)(hC:zxY .any all n=true)(hlen:all.length=n+1)
  (hS:∀q∈S,q.2<a0.tmps.size) (j7:(S.map Prod.fst).Nodup) (kA:(S.map Prod.snd).Nodup) (hSn:∀q∈S,q.1<n) (h0:I (λ_=>false) w.drew)
  (hlt:∀i u w,Φ i u w->∀b,u.ownBlock=zb b->b<w.heap.size)
  (hstep:∀l a w i o,Uo a0 S all I Φ l a w->i<n->all[i]?=zb o->l i=false->(∀j∈BV .any o,l j=true)->
   o.wp P a w (λa' w'=>I (λj=>l j || j==i) w'/\(∀j u,Φ j u w->Φ j u w')/\∃s v,(i,s)∈S/\a'=a.put (zb s) v/\Φ i v w'/\∀b,v.ownBlock=zb b->w.heap.size<=b) (Bi Q))
  (nI:∀l a w o,Uo a0 S all I Φ l a w->all[n]?=zb o->(∀i,i<n->l i=true)->o.wp P a w (λa' w'=>Q .normal a' w') (Bi Q)):
  (Code.region id all.toArray true).wp P Q a0 w:=by
 refine zkv (Q:=Q) (λl a w=>if l n=true then (∀i,i<n->l i=true)/\Q .normal a w else Uo a0 S all I Φ l a w) hm hB ?_ ?_ ?_
 ·rw[ab (by simp)];exact⟨h0,Dr.refl _ _,λ_ _ h=>(by cases h),λ_ _ _ _ h=>(by cases h),λ_ _ _ h=>(by cases h)⟩
 ·intro l a w i o hJ ho hl hq;have hi:i<n+1:=by rw[<-hlen];exact(mA.1 ho).1
  have oD:=zt4 hq
  by_cases jo:l n=true
  ·rw[af jo]at hJ;have:i=n\/i<n:=by omega
   rcases this with e|e
   ·subst e;rw[hl]at jo;cases jo
   ·have:=hJ.1 i e;rw[hl]at this;cases this
  ·rw[ab jo]at hJ
   by_cases e:i=n
   ·subst e;have bm:∀j,j<i->l j=true:=by
     unfold zxY at hC;rw[ho]at hC;intro j hj;have:=jR.1 hC j (qm.2 hj);exact zh9 hJ.zyb oD i j (by simpa using this)
    refine Oper.wp_mono (λa' w' h=>?_) (nI l a w o hJ ho bm);rw[af (by simp)];exact⟨λj hj=>by simp[bm j hj],h⟩
   ·refine Oper.wp_mono (λa' w' h=>?_) (hstep l a w i o hJ (by omega) ho hl oD);rw[ab (by simp[jo];omega)];obtain⟨hI,hk,s,v,hs,rfl,hv,hf⟩:=h;have NS:s<a.tmps.size:=by rw[hJ.act.sz];exact hS _ hs
    have hne:∀q∈S,q.1≠i->q.2≠s:=by
     intro q uO j8 e2;obtain⟨x,hx,ex⟩:=Al.1 uO;obtain⟨y,hy,ey⟩:=Al.1 hs;have h1:(S.map Prod.snd)[x]?=(S.map Prod.snd)[y]?:=by
      simp only[wV,bE hx,bE hy,ex,ey,rQ,e2]
     have h2:=(List.getElem?_inj (by simpa using hx) kA).1 h1;subst h2;rw[ex]at ey;exact j8 (by rw[ey])
    have Ci:∀q∈S,q.1=i->q=(i,s):=by
     intro q uO j8;obtain⟨x,hx,ex⟩:=Al.1 uO;obtain⟨y,hy,ey⟩:=Al.1 hs;have h1:(S.map Prod.fst)[x]?=(S.map Prod.fst)[y]?:=by
      simp only[wV,bE hx,bE hy,ex,ey,rQ,j8]
     have h2:=(List.getElem?_inj (by simpa using hx) j7).1 h1;subst h2;exact ex.symm.trans ey
    have hold:∀q∈S,(l q.1 || q.1==i)=true->q≠(i,s)->l q.1=true/\(a.put (zb s) v).eval (.tmp q.2)=a.eval (.tmp q.2):=by
     intro q uO j8 Yr;have h1:q.1≠i:=λe=>Yr (Ci q uO e)
     refine⟨by simpa [h1]using j8,ziV (hne q uO h1)⟩
    refine⟨hI,hJ.act.put (Am.2 ⟨_,hs,rfl⟩) v,λq uO j8=>?_,λq uO r iL j8 sq xQ b hb=>?_,λj o' wh hj i' lJ=>?_⟩
    ·by_cases e2:q=(i,s)
     ·subst e2;rw[Ty NS];exact hv
     ·obtain⟨h1,h2⟩:=hold q uO j8 e2;rw[h2];exact hk _ _ (hJ.val q uO h1)
    ·by_cases e2:q=(i,s)<;>by_cases e3:r=(i,s)
     ·exact absurd (e2.trans e3.symm) xQ
     ·obtain⟨h1,h2⟩:=hold r iL sq e3;subst e2;rw[Ty NS]at hb;rw[h2];intro hc;have:=hlt _ _ _ (hJ.val r iL h1) b hc;have:=hf b hb;omega
     ·obtain⟨h1,h2⟩:=hold q uO j8 e2;subst e3;rw[h2]at hb;rw[Ty NS];intro hc;have:=hlt _ _ _ (hJ.val q uO h1) b hb;have:=hf b hc;omega
     ·obtain⟨h1,h2⟩:=hold q uO j8 e2;obtain⟨h3,h4⟩:=hold r iL sq e3;rw[h2]at hb;rw[h4];exact hJ.apart q uO r iL h1 h3 xQ b hb
    ·by_cases e2:j=i
     ·subst e2;rw[ho]at wh;cases wh;simp[oD i' lJ]
     ·have hj':l j=true:=by simpa [e2]using hj
      simp[hJ.zyb j o' wh hj' i' lJ]
 ·intro l a w hJ bm;have jo:l n=true:=bm n (by omega);rw[af jo]at hJ;exact hJ.2
end
end
structure eZ(p:Nat)(w:za)(B R g:Nat)(W:za)(width:Int)(v:Nat->zc)(ls:Nat->List Int):Prop where
 au:aI B 4 W v ls
 box:W.heap[g]?=zb (.cells (iF width v) 25 (0,0))
 bw:W.heap[R]?=zb (.cells bI 25 (0,0))
 kept:aE p w W
 base:p<w.heap.size/\w.heap.size<=B/\w.heap.size<=R/\w.heap.size<=g/\R≠g
theorem aE.SJ{p lo:Nat}{w w':za}(h:aE p w w')(hl:p<lo):Same lo w w':=⟨h.size,λk hk hs=>h.block k hs (by omega)⟩
theorem aE.ww{p:Nat}{w w':za}(h:aE p w w'){b:Nat}(hb:w.heap.size<=b)(i:Nat)(u:zc):aE p w (w'.setCell ⟨b,i,zd⟩ u):=
 ⟨h.os,h.tape,h.output,by simpa [World.setCell]using h.size,λk hk hs=>(bh _ _ _ _ (show k≠b by omega)).trans (h.block k hk hs)⟩
theorem aE.grown{p:Nat}{w W W':za}(h:aE p w W){r:Option Nat}(hg:W.grownBy W' r)(hr:∀b,r=zb b->w.heap.size<=b):aE p w W':=
 ⟨hg.os.trans h.os,hg.tape.trans h.tape,hg.output.trans h.output,cY h.size hg.size,λk hk hs=>(hg.block k (dR hk h.size) (λe=>by have:=hr k e.symm;omega)).trans (h.block k hk hs)⟩
section
variable {p:Nat} {w W W':za} {B R g:Nat} {width:Int} {v:Nat->zc} {ls:Nat->List Int}
theorem eZ.low(h:eZ p w B R g W width v ls):g<W.heap.size/\p<B/\p≠g/\p≠R/\p<W.heap.size:=by
 have:=h.base;have:=ay h.box;omega
theorem eZ.kp(h:eZ p w B R g W width v ls)(hk:aE p W W'):eZ p w B R g W' width v ls:=by
 have hb:=h.base;exact⟨h.au.keep λb aO aB=>hk.block b aB (by omega),(hk.block g (ay h.box) (by omega)).trans h.box,(hk.block R (ay h.bw) (by omega)).trans h.bw,h.kept.trans hk,hb⟩
theorem eZ.field(h:eZ p w B R g W width v ls){i:Nat}(hi:i<4)(off:Nat)(ho:tU i=off){u:zc}{ys:List Int}(hF:aI B 4 W' (upd v i u) (bG ls i ys))(hg:W.grownBy W' (v i).ownBlock):
  W'.heap[g]?=zb (.cells (iF width v) 25 (0,0))/\eZ p w B R g (W'.setCell ⟨g,off,zd⟩ u) width (upd v i u) (bG ls i ys):=by
 subst ho;have hb:=h.base;have dk:=h.au.others (i:=i) (by omega) hg (by decide) h.box;have G5:=h.au.others (i:=i) (by omega) hg (by decide) h.bw;refine⟨dk,hF.AX λj hj b bW=>bh _ _ _ _ (λe=>?_),?_,(bh _ _ _ _ (show R≠g by omega)).trans G5,(h.kept.grown hg λb bW=>?_).ww (by omega) _ _,hb⟩
 ·obtain⟨aZ,hc⟩:=wG (hF.own j hj) bW;rw[e,dk]at hc;exact absurd (zR hc) (by decide)
 ·have:=cJ W' g (tU i) _ _ u dk;rw[OQ _ _ _ hi]at this;exact this
 ·have:=(dG (h.au.own i hi) bW).1;omega
theorem eZ.put(h:eZ p w B R g W width v ls){i:Nat}(hi:i<4){b m cap:Nat}(hv:v i=zf (zb ⟨b,0,zd⟩) m cap)(hm:(ls i).length=m)(j:Nat)(y:Int):
  eZ p w B R g (W.setCell ⟨b,j,zd⟩ (ze .i64 y)) width v (bG ls i ((ls i).set j y)):=by
 have hb:=h.base;have bW:(v i).ownBlock=zb b:=by rw[hv];rfl
 obtain⟨aZ,hc⟩:=wG (h.au.own i hi) bW;have nJ:=(dG (h.au.own i hi) bW).1;have hne:∀{k:Nat} {C:Array zc},W.heap[k]?=zb (.cells C 25 (0,0))->k≠b:=λhk e=>by
  rw[e,hc]at hk;exact absurd (zR hk) (by decide)
 exact⟨h.au.put hi hv hm j y,(bh _ _ _ _ (hne h.box)).trans h.box,(bh _ _ _ _ (hne h.bw)).trans h.bw,h.kept.ww (by omega) _ _,hb⟩
theorem eZ.at(h:eZ p w B R g W width v ls){i:Nat}(hi:i<4){b m cap:Nat}(hv:v i=zf (zb ⟨b,0,zd⟩) m cap):(∀j,j<(ls i).length->W.cell? ⟨b,j,zd⟩=zb (ze .i64 ((ls i).getD j 0)))/\∀j,W.frozen? ⟨b,j,zd⟩=false:=by
 obtain⟨aZ,hc⟩:=wG (h.au.own i hi) (by rw[hv];rfl);refine⟨λj hj=>?_,λj=>aM _ _ _ _ _ hc⟩;obtain⟨b',cap',hv',_,_,h3⟩:=C7 (h.au.own i hi) (by omega);rw[hv]at hv';injection hv' with e _ _
 injection e with e
 injection e with e
 subst e;exact h3 j hj
theorem eZ.rY(h:eZ p w B R g W width v ls){c:List UInt8}{a:Nat}{r:Int}(hd:aR W p c a r){i:Nat}(hi:i<4)(hg:W.grownBy W' (v i).ownBlock)(off:Nat)(u:zc):aR (W'.setCell ⟨g,off,zd⟩ u) p c a r:=by
 have hb:=h.base;exact hd.keep λk hk=>(bh _ _ _ _ (show k≠g by omega)).trans (hg.block k (by have:=hd.lt;omega) (λe=>by have:=(dG (h.au.own i hi) e.symm).1;omega))
theorem eZ.row(h:eZ p w B R g W width v ls){i:Nat}(hi:i<4)(h0:0<(ls i).length):∃b cap,v i=zf (zb ⟨b,0,zd⟩) (ls i).length cap/\B<b/\b<W.heap.size/\(∀j,j<(ls i).length->W.cell? ⟨b,j,zd⟩=zb (ze .i64 ((ls i).getD j 0)))/\∀j,W.frozen? ⟨b,j,zd⟩=false:=by
 obtain⟨b,cap,hv,h1,h2,h3⟩:=C7 (h.au.own i hi) h0;obtain⟨aZ,hc⟩:=wG (h.au.own i hi) (by rw[hv];rfl);exact⟨b,cap,hv,h1,h2,h3,λj=>aM _ _ _ _ _ hc⟩
end
def Bt(v:zc):Prop:=∃ao n cap,v=.slice ao n cap/\n<=cap
theorem zn6{B:Nat}{W:za}{v:zc}{xs:List Int}(h:bX B W v xs):Bt v:=by
 rcases h.2 with ⟨rfl,h0⟩|⟨g,cap,aZ,rfl,_,_,hn,_⟩
 ·exact⟨_,_,_,rfl,aq _⟩
 ·exact⟨_,_,_,rfl,hn⟩
def Ae(p:Nat)(w:za)(c:List UInt8)(d:aL)(a:Nat)(r:Int)(e:Ending)(w':za):Prop:=∃cv nv tv ev,e=.returned (.agg #[cv,ze .i64 d.width,nv,tv,ev])/\(dP w.heap.size w' cv nv tv ev d/\Bt nv)/\aR w' p c a r/\aE p w w'
theorem aR.put{w:za}{p:Nat}{c:List UInt8}{a:Nat}{r:Int}(h:aR w p c a r){b:Nat}(hb:p<b)(i:Nat)(u:zc):aR (w.setCell ⟨b,i,zd⟩ u) p c a r:=h.keep λk hk=>bh _ _ _ _ (show k≠b by omega)
theorem aR.grown{w w':za}{p:Nat}{c:List UInt8}{a:Nat}{r:Int}(h:aR w p c a r){o:Option Nat}(hg:w.grownBy w' o)(ho:∀b,o=zb b->p<b):aR w' p c a r:=h.keep λk hk=>hg.block k (by have:=h.lt;omega) (λe=>by have:=ho k e.symm;omega)
structure fJ(p:Nat)(X:za) where
 W:za
 h:aE p X W
instance zCI (p:Nat) (X:za):Nonempty (fJ p X):=⟨⟨X,aE.refl _ _⟩⟩
theorem ye(xs:Array zc)(w:za):(callFunc 17 xs).run prog w=.ok (.enter 17 xs) w:=by kernel_rfl
theorem aE.drew{p:Nat}{w w':za}(h:aE p w w'):aE p w w'.drew:=⟨h.os,h.tape,h.output,h.size,h.block⟩
theorem aE.alloc{p:Nat}{w w':za}(h:aE p w w')(o:Obj):aE p w (w'.alloc o):=h.trans (.of (ax))
section
variable {P:Program} {ρ:Operand->zc} {o:Oper}
theorem Tu{x:Operand}(ho:o.op=.move x)(w:za):(execOp ρ o).run P w=.ok (.value (ρ x)) w:=by
 obtain⟨dst,op,type,pos,after,guard⟩:=o;simp only at ho;subst ho
 rfl
theorem zjr(ho:o.op=.alloc 25)(w:za):(execOp ρ o).run prog w=.ok (.value (.pointer (zb ⟨w.heap.size,0,zd⟩))) (w.alloc (.cells bI 25)):=by
 obtain⟨dst,op,type,pos,after,guard⟩:=o;simp only at ho;subst ho;simp[execOp,go_sem,bI]
theorem zrt{l c:Operand}(ho:o.op=.makeSlice 23 l c){n:Nat}(hn:n<=100000)(hl:ρ l=ze .i64 (n:Int))(hc:ρ c=ze .i64 (n:Int))(w:za)(base:Nat)(hb:base<=w.heap.size):
  ∃w',(execOp ρ o).run prog w=.ok (.value (zf (zb ⟨w.heap.size,0,zd⟩) n n)) w'/\w'.ownsRow base 3 1 (zf (zb ⟨w.heap.size,0,zd⟩) n n) n (lO (List.replicate n 0))/\w.grownBy w' zd:=by
 obtain⟨dst,op,type,pos,after,guard⟩:=o;simp only at ho;subst ho;obtain⟨i0,hi,da,dt,cR⟩:=info_parts Tryz.pX;obtain⟨w',h1,h2,h3⟩:=run_make_full (P:=prog) w base 23 3 i0 _ 1 underlying23 hi da dt .i64 .i64 n (by rw[cR];omega) (by unfold maxLen;omega) hb;rw[zhO]at h2;refine⟨w',?_,h2,h3⟩;simp[execOp,hl,hc,h1,Result.andThen]
theorem zte{x y:Operand}(ho:o.op=.binOp .add 3 x y 3){m k s:Int}(hx:ρ x=ze .i64 m)(hy:ρ y=ze .i64 k)(hw:IntKind.i64.wrap (m+k)=s)(w:za):(execOp ρ o).run prog w=.ok (.value (ze .i64 s)) w:=by
 obtain⟨dst,op,type,pos,after,guard⟩:=o;simp only at ho;subst ho;simp[execOp,hx,hy,go_sem,hw]
theorem zpp{f:FuncId}{x y:Operand}{ats:Array zh}(ho:o.op=.call {callee:=.value (.func f),args:=#[x,y],argTypes:=ats}){u v:zc}(hf:ρ (.func f)=.func (.func f) #[] #[])(hx:ρ x=u)(hy:ρ y=v)(w:za)(iC:(callFunc f #[u,v]).run P w=.ok (.enter f #[u,v]) w):(execOp ρ o).run P w=.ok (.enter f #[u,v]) w:=by
 obtain⟨dst,op,type,pos,after,guard⟩:=o;simp only at ho;subst ho;subst hx;subst hy;have e:execOp ρ {dst,op:=.call {callee:=.value (.func f),args:=#[x,y],argTypes:=ats},type,pos,after,guard}=callFunc f (#[]++#[x,y].map ρ++#[]):=by
  show (do let d <-Deferred.ofValue (ρ (.func f)) (#[x,y].map ρ);invoke d.target d.args)=_;rw[hf]
  rfl
 rw[e]
 simpa using iC
end
section
variable {P:Program} {o:Oper} {a:Act} {w w':za} {K:Act->za->Prop} {Q:Exit->Act->za->Prop} {d:Nat} {v:zc} {f:FuncId} {xs:Array zc}
theorem A3(hx:(execOp a.eval o).run P w=.ok (.value v) w')(hd:o.dst=zb d)(hK:K (a.put (zb d) v) w'):o.wp P a w K Q:=by
 unfold Oper.wp;rw[hx,Oper.upon_value,hd];exact hK
theorem zrD(hx:(execOp a.eval o).run P w=.ok (.enter f xs) w)(hd:o.dst=zb d)(hc:zg P f xs w λe w'=>∃v,e=.returned v/\K (a.put (zb d) v) w'):o.wp P a w K Q:=by
 unfold Oper.wp;rw[hx,Oper.upon_enter];refine hc.mono ?_;rintro e w' ⟨v,rfl,h⟩;rw[hd];exact h
theorem zl2(hx:(execOp a.eval o).run P w=.ok .skip w')(hd:o.dst=zd)(hK:K a w'):o.wp P a w K Q:=by
 unfold Oper.wp;rw[hx,Oper.upon_skip,hd];exact hK
end
theorem tZ{P:Program}{ops:Array Oper}{Cw:za->Prop}{Q:Exit->Act->za->Prop}{t j:Nat}{o:Oper}{l:List (Nat×Oper)}{a:Act}{w:za}(hk:t∉l.map Prod.fst)(hL:∀a w,¬Q .outgrown a w)(h:wpList P ops Q (o::l.map Prod.snd) a w):sN P ops Cw t Q ((j,o)::l) a w:=by
 unfold wpList at h;unfold sN
 by_cases hw:Region.wanted o (yielded ops a.tmps)=true
 ·rw[af hw]at h ⊢;rcases h with h|h
  ·exact Oper.wp_mono (λa w h=>⟨λe=>absurd e hk,Tf l a w hk hL h⟩) h
  ·obtain⟨_,a',w',h'⟩:=h;exact absurd h' (hL a' w')
 ·rw[ab hw]at h ⊢;exact⟨λe=>absurd e hk,Tf l _ w hk hL h⟩
theorem zjs{ρ:Operand->zc}{o:Oper}{x y:Operand}(ho:o.op=.store 25 x y){g n0 n1 n2 n3 c0 c1 c2 c3:Nat}{wd:Int}{a0 a1 a2 a3:Option Addr}(hx:ρ x=.pointer (zb ⟨g,0,zd⟩))(hy:ρ y=.agg #[.slice a0 n0 c0,ze .i64 wd,.slice a1 n1 c1,.slice a2 n2 c2,.slice a3 n3 c3]){w:za}(r:w.heap[g]?=zb (.cells bI 25 (0,0))):
  (execOp ρ o).run prog w=.ok .skip (ff w g (.slice a0 n0 c0) (ze .i64 wd) (.slice a1 n1 c1) (.slice a2 n2 c2) (.slice a3 n3 c3)):=by
 obtain⟨dst,op,type,pos,after,guard⟩:=o;simp only at ho;subst ho;have f0:=aM _ _ 0 _ _ r;have f1:=aM _ _ 1 _ _ r;have f2:=aM _ _ 2 _ _ r;have f3:=aM _ _ 3 _ _ r;have f4:=aM _ _ 4 _ _ r;unfold bI at r;obtain⟨q0,q1,q2,q3,q4⟩:=dM r;simp[execOp,hx,hy,go_sem,q0,q1,q2,q3,q4,f0,f1,f2,f3,f4,ff]
theorem zkk{W:za}{g:Nat}{wd:Int}{v:Nat->zc}{z0 z1 z2 z3 z4:zc}(h:W.heap[g]?=zb (.cells #[z0,z1,z2,z3,z4] 25 (0,0))):(ff W g (v 0) (ze .i64 wd) (v 1) (v 2) (v 3)).heap[g]?=zb (.cells (iF wd v) 25 (0,0)):=by
 unfold ff;exact cJ _ _ _ _ _ _ (cJ _ _ _ _ _ _ (cJ _ _ _ _ _ _ (cJ _ _ _ _ _ _ (cJ _ _ _ _ _ _ h))))
theorem zQ{W:za}{g k:Nat}{u0 u1 u2 u3 u4:zc}(h:k≠g):(ff W g u0 u1 u2 u3 u4).heap[k]?=W.heap[k]?:=by
 unfold ff;rw[bh _ _ _ _ h,bh _ _ _ _ h,bh _ _ _ _ h,bh _ _ _ _ h,bh _ _ _ _ h]
theorem OG{p:Nat}{w W:za}(h:aE p w W){g:Nat}(hg:w.heap.size<=g)(u0 u1 u2 u3 u4:zc):aE p w (ff W g u0 u1 u2 u3 u4):=by
 unfold ff;exact((((h.ww hg _ _).ww hg _ _).ww hg _ _).ww hg _ _).ww hg _ _
theorem Oy{o:Oper}{a:Act}{w:za}{K:Act->za->Prop}{Q:Exit->Act->za->Prop}{d n:Nat}{l c:Operand}(ho:o.op=.makeSlice 23 l c)(hn:n<=100000)(hl:a.eval l=ze .i64 (n:Int))(hc:a.eval c=ze .i64 (n:Int))(base:Nat)(hb:base<=w.heap.size)(hd:o.dst=zb d)
  (hK:∀w',bX base w' (zf (zb ⟨w.heap.size,0,zd⟩) n n) (List.replicate n 0)->w.grownBy w' zd->K (a.put (zb d) (zf (zb ⟨w.heap.size,0,zd⟩) n n)) w'):o.wp prog a w K Q:=by
 obtain⟨w',h1,h2,h3⟩:=zrt ho hn hl hc w base hb;refine A3 h1 hd (hK w' ?_ h3);have e:lO (List.replicate n 0)=(List.replicate n (0:Int)).map eu:=by simp[lO,eu]
 rw[e]at h2;unfold bX;rw[List.length_replicate];exact h2
theorem zvO{x:Int}(h1:-1000000000000000000<=x)(h2:x<=1000000000000000000):IntKind.i64.wrap x=x:=by
 simp[IntKind.wrap,IntKind.bits,IntKind.signed];omega
theorem eZ.done{p:Nat}{w W:za}{B R g:Nat}{width:Int}{v:Nat->zc}{ls:Nat->List Int}(h:eZ p w B R g W width v ls){c:List UInt8}{a:Nat}{r:Int}(hd:aR W p c a r)(hl:∀i,i<4->(ls i).length<=1048576):
  (dP w.heap.size (ff W R (v 0) (ze .i64 width) (v 1) (v 2) (v 3)) (v 0) (v 1) (v 2) (v 3) ⟨ls 0,width,ls 1,ls 2,ls 3⟩/\Bt (v 1))/\aR (ff W R (v 0) (ze .i64 width) (v 1) (v 2) (v 3)) p c a r/\aE p w (ff W R (v 0) (ze .i64 width) (v 1) (v 2) (v 3)):=by
 have hb:=h.base;have hF:aI B 4 (ff W R (v 0) (ze .i64 width) (v 1) (v 2) (v 3)) v ls:=h.au.AX λi hi b bW=>zQ λe=>by
  obtain⟨aZ,hc⟩:=wG (h.au.own i hi) bW;rw[e,h.bw]at hc;exact absurd (zR hc) (by decide)
 have hO:∀i,i<4->dD w.heap.size (ff W R (v 0) (ze .i64 width) (v 1) (v 2) (v 3)) (v i) (ls i):=λi hi=>((hF.own i hi).at (by have:=hl i hi;omega)).low (by omega)
 exact⟨⟨⟨hO 0 (by omega),hO 1 (by omega),hO 2 (by omega),hO 3 (by omega)⟩,zn6 (hF.own 1 (by omega))⟩,hd.keep λk hk=>zQ (by omega),OG h.kept (by omega) _ _ _ _ _⟩
end Go.Proofs.YtfajjdgkiilhfaaGreatDoor
