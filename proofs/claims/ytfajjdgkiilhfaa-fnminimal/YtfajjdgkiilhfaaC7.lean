import Derived.Test.YtfajjdgkiilhfaaC6
import Derived.Deep.RegionLaw
import Derived.Deep.Cut
import Derived.Deep.CutRange
namespace Go.Proofs.Ytfajjdgkiilhfaa
open Proofs.Try
open Go renaming World->za,Value->zi
open Option renaming some->zh,none->zn
open Value renaming int->zp,slice->zw
set_option maxHeartbeats 1000000
set_option maxRecDepth 100000
open Go.RowKit
section
open Go
section
variable {P:Program} {ops:Array Oper} {md:Region.Mode} {C:za->Prop} {Q:Exit->Act->za->Prop}
def Qf(md:Region.Mode)(ops:Array Oper):List Nat->Array Bool->Bool
 |[],listed=>(Region.ready md ops listed).isEmpty
 |j::js,listed=>(Region.ready md ops listed == [j])&&Qf md ops js (listed.setIfInBounds j true)
def sZ(P:Program)(ops:Array Oper)(C:za->Prop)(t:Nat)(Q:Exit->Act->za->Prop):List (Nat×Oper)->Act->za->Prop
 |[],a,w=>Q .normal a w
 |(_,o)::rest,a,w=>if Region.wanted o (yielded ops a.tmps) then o.wp P a w (λa' w'=>(t∈rest.map Prod.fst->C w')/\sZ P ops C t Q rest a' w') Q else (t∈rest.map Prod.fst->C w)/\sZ P ops C t Q rest (a.put o.dst undef) w
theorem zeF{t:Nat}:∀(js:List Nat) (l:List (Nat×Oper)) (listed:Array Bool) (a:Act) (w:za),l.map Prod.fst=js->(∀x∈l,ops[x.1]?=zh x.2)->(∀k,listed.getD k true=false->k∈js)->Qf md ops js listed=true->sZ P ops C t Q l a w->Cn P md ops C t Q l.length listed a w
 |[],[],listed,_,_,_,_,_,hB,h=>by
  simp only[Qf,List.isEmpty_iff]at hB;exact⟨hB,h⟩
 |j::js,(j',o)::l,listed,a,w,hl,ho,hk,hB,h=>by
  obtain⟨rfl,AA⟩:j'=j/\l.map Prod.fst=js:=by simpa using hl
  simp only[Qf,fQ,beq_iff_eq]at hB;have h0:ops[j']?=zh o:=ho (j',o) (by simp);have bP:∀k,(listed.setIfInBounds j' true).getD k true=false->k∈js:=λk hf=>by
   by_cases e:j'=k
   ·subst e;rcases jP j' listed.size with h'|h'
    ·simp[h']at hf
    ·simp at hf
   ·rw[DV e]at hf;rcases tn.1 (hk k hf) with h1|h1
    ·exact absurd h1.symm e
    ·exact h1
  have ih:=λa w h=>zeF (t:=t) js l (listed.setIfInBounds j' true) a w AA (λx hx=>ho x (by simp[hx])) bP hB.2 h
  have OQ:∀{p:Prop},(t∈l.map Prod.fst->p)->(listed.setIfInBounds j' true).getD t true=false->p:=λhp hf=>hp (by rw[AA];exact bP t hf)
  refine⟨λe=>absurd e (by rw[hB.1];simp),λi hi=>?_⟩;rw[hB.1]at hi;have e:i=j':=by simpa using hi
  subst e;unfold wpOp;simp only[h0];unfold sZ at h
  by_cases hw:Region.wanted o (yielded ops a.tmps)=true
  ·rw[ae hw]at h ⊢;exact .inl (Oper.wp_mono (λa w h=>⟨OQ h.1,ih a w h.2⟩) h)
  ·rw[ab hw]at h ⊢;exact⟨OQ h.1,ih _ _ h.2⟩
 |[],(_,_)::_,_,_,_,h,_,_,_,_=>by simp at h
 |_::_,[],_,_,_,h,_,_,_,_=>by simp at h
theorem xo{o:Oper}{a:Act}{w:za}{K:Act->za->Prop}(f:FuncId)(xs:Array Operand)(ats:Array TypeId)
  (ho:o.op=.call {callee:=.value (.func f),args:=xs,argTypes:=ats}) (args:Array zi) (Lc:(#[]++xs.map a.eval++#[]:Array zi)=args) (R:zi->za->Prop) (oq:(callFunc f args).run P w=.ok (.enter f args) w)
  (hc:Calls P f args w λe w'=>∃v,e=.returned v/\R v w') (h:∀v w',R v w'->K (a.put o.dst v) w'):Oper.wp P o a w K Q:=by
 obtain⟨dst,op,type,pos,after,guard⟩:=o;simp only at ho;subst ho;unfold Oper.wp;rw[execOp_call_go,Lc];rw[oq,Oper.upon_enter];refine hc.mono ?_;rintro e w' ⟨v,rfl,hR⟩;exact h v w' hR
theorem lV{t j:Nat}{o:Oper}{rest:List (Nat×Oper)}{a:Act}{w:za}(hg:o.guard=zn)(h:∀K:Act->za->Prop,(∀a' w',(t∈rest.map Prod.fst->C w')->sZ P ops C t Q rest a' w'->K a' w')->o.wp P a w K Q):sZ P ops C t Q ((j,o)::rest) a w:=by
 unfold sZ;rw[ae (by simp[Region.wanted,hg])];exact h _ (λ_ _ h1 h2=>⟨h1,h2⟩)
theorem TD{t:Nat}:∀(l:List (Nat×Oper)) (a:Act) (w:za),t∉l.map Prod.fst->(∀a w,¬Q .outgrown a w)->wpList P ops Q (l.map Prod.snd) a w->sZ P ops C t Q l a w
 |[],_,_,_,_,h=>h
 |(j,o)::l,a,w,hk,hL,h=>by
  simp only[Be]at h hk;have bP:t∉l.map Prod.fst:=λe=>hk (by simp[e])
  unfold wpList at h;unfold sZ
  by_cases hw:Region.wanted o (yielded ops a.tmps)=true
  ·rw[ae hw]at h ⊢;rcases h with h|h
   ·exact Oper.wp_mono (λa w h=>⟨λe=>absurd e bP,TD l a w bP hL h⟩) h
   ·obtain⟨_,a',w',h'⟩:=h;exact absurd h' (hL a' w')
  ·rw[ab hw]at h ⊢;exact⟨λe=>absurd e bP,TD l _ w bP hL h⟩
end
end
section
open Go
section
variable {P:Program} {ops:Array Oper} {md:Region.Mode} {C:za->Prop} {Q:Exit->Act->za->Prop}
def zpM(l:Array Bool):List Nat->Array Bool
 |[]=>l
 |i::is=>zpM (l.setIfInBounds i true) is
def zoE(md:Region.Mode)(ops:Array Oper):List Nat->Array Bool->Bool
 |[],_=>true
 |j::js,listed=>(Region.ready md ops listed == [j])&&zoE md ops js (listed.setIfInBounds j true)
def Gt(o:Oper):Bool:=match o.op with
 |.move _=>true
 |.assign _=>true
 |.load _ _=>true
 |.fieldAddr _ _ _=>true
 |.indexAddr _ _ _=>true
 |.binOp _ _ _ _ _=>true
 |.nilCheck _=>true
 |.slice _ _ _ _ _=>true
 |_=>false
theorem zlR{o:Oper}(h:Gt o=true){ρ:Operand->zi}{w w':za}{n:Next}(hr:(execOp ρ o).run P w=.ok n w'):∃u,n=.value u:=by
 obtain⟨dst,op,type,pos,after,guard⟩:=o;cases op<;>simp only[Gt,Bool.false_eq_true]at h
 all_goals (simp only[execOp]at hr)
 case move x=>rw[Sem.run_pure]at hr;injection hr with h1;exact⟨_,h1.symm⟩
 case assign x=>rw[Sem.run_pure]at hr;injection hr with h1;exact⟨_,h1.symm⟩
 case nilCheck x=>
  split at hr
  case h_4=>
   split at hr
   case h_1=>simp[runtimePanic,go_sem]at hr
   case h_2=>
    simp only[Sem.run_bind]at hr;generalize Sem.run P program w=r1 at hr;cases r1 with
    |halt x w1=>simp[Result.andThen]at hr
    |ok a w1=>
     simp only[Result.andThen]at hr;generalize Sem.run P (nilAhead _ _ _ _) w1=r2 at hr;cases r2 with
     |halt x w2=>simp at hr
     |ok b w2=>
      simp only at hr;split at hr
      ·simp[unsupported,go_sem]at hr
      ·rw[Sem.run_pure]at hr;injection hr with h1;exact⟨_,h1.symm⟩
   case h_3=>rw[Sem.run_pure]at hr;injection hr with h1;exact⟨_,h1.symm⟩
  case h_5=>rw[Sem.run_pure]at hr;injection hr with h1;exact⟨_,h1.symm⟩
  all_goals (simp[runtimePanic,go_sem]at hr)
 all_goals exact zkM hr
theorem zhU{o:Oper}{a:Act}{K:Act->Prop}(hb:Gt o=true)(hw:Region.wanted o (yielded ops a.tmps)=true)(h:o.quiet P a C K):∃v,sY P ops C o v a/\K (a.put o.dst v):=by
 obtain⟨v,h1,h2⟩:=h;refine⟨v,.inl ⟨hw,λw hC=>?_⟩,h2⟩;have h3:=h1 w hC;unfold Oper.quietAt at h3;cases hr:(execOp a.eval o).run P w with
 |ok n w'=>
  obtain⟨u,rfl⟩:=zlR hb hr;rw[hr]at h3;obtain⟨e1,e2⟩:=h3;rw[e1,e2]
 |halt x w'=>rw[hr]at h3;exact h3.elim
def zyi(md:Region.Mode)(ops:Array Oper)(js:List Nat):List Nat->Array Bool->Bool
 |[],listed=>zoE md ops js listed
 |i::is,listed=>(Region.ready md ops listed).contains i&&Region.free md ops listed i&&zyi md ops js is (listed.setIfInBounds i true)
def ztN(md:Region.Mode)(all:List Oper)(done:List Nat):Bool:=zyh md all.toArray done (Array.replicate all.length false)
 where zyh (md:Region.Mode) (ops:Array Oper):List Nat->Array Bool->Bool
 |[],_=>true
 |i::is,listed=>(Region.ready md ops listed).contains i&&zyh md ops is (listed.setIfInBounds i true)
def zDi(md:Region.Mode)(all:List Oper)(done is js:List Nat):Bool:=
 Region.noSelect all.toArray&&ztN md all done&&(match js with | []=>false|t::_=>is.all (λi=>sX md all.toArray 8 t i&&decide (t≠i)&&(match all[i]? with|some o=>Gt o|none=>false)))&&zyi md all.toArray js is (zpM (Array.replicate all.length false) done)&&js.all (λj=>decide (j<all.length))
def Qs(md:Region.Mode)(ops:Array Oper)(js:List Nat):List Nat->Array Bool->Bool
 |[],listed=>Qf md ops js listed&&(List.range ops.size).all (λk=>listed.getD k true || js.contains k)
 |i::is,listed=>(Region.ready md ops listed).contains i&&Region.free md ops listed i&&Qs md ops js is (listed.setIfInBounds i true)
def UK(md:Region.Mode)(all:List Oper)(is js:List Nat)(t:Nat):Bool:=
 Region.noSelect all.toArray&&is.all (λi=>sX md all.toArray 8 t i&&decide (t≠i)&&(match all[i]? with|some o=>Gt o|none=>false))&&Qs md all.toArray js is (Array.replicate all.length false)&&decide (is.length+js.length=all.length)&&js.all (λj=>decide (j<all.length))
theorem zf0{D:za->Prop}{t:Nat}{js:List Nat}{lj:List (Nat×Oper)}(hs:Region.noSelect ops=true)(lM:lj.map Prod.fst=js)(qA:∀x∈lj,ops[x.1]?=zh x.2)(hQ:∀c a a' w,Q (.panic c) a w->Q (.panic c) a' w):
  ∀(is:List Nat) (l:List Oper) (listed:Array Bool) (a:Act) (w:za),mz md ops listed->listed.size=ops.size->l.length=is.length->(∀k,k<is.length->∃i o,is[k]?=zh i/\l[k]?=zh o/\ops[i]?=zh o/\Gt o=true/\sX md ops 8 t i=true/\t≠i)->
   Qs md ops js is listed=true->C w->D w->wpQuiet P ops C (λa'=>∀w',D w'->∀r,r=lj->sZ P ops C t Q r a' w') l a->Cn P md ops C t Q (is.length+lj.length) listed a w
 |[],[],listed,a,w,bn,hsz,_,_,hB,_,hD,h=>by
  simp only[Qs,fQ,qQ,mB,np,List.contains_iff_mem]at hB;rw[n4,jB];refine zeF js lj listed a w lM qA (λk hk=>?_) hB.1 (h w hD _ rfl);have hlt:k<ops.size:=by
   rcases jP k ops.size with h'|h'
   ·exact h'
   ·rw[<-hsz]at h';simp[Array.getElem?_eq_none h']at hk
  rcases hB.2 k hlt with h1|h1
  ·rw[hk]at h1;cases h1
  ·exact h1
 |i::is,o::l,listed,a,w,bn,hsz,IK,hio,hB,hC,hD,h=>by
  obtain⟨i',o',e1,e2,h0,yL,fg,LC⟩:=hio 0 (by simp);simp at e1 e2;subst e1;subst e2;simp only[Qs,fQ]at hB;obtain⟨⟨hr,hf⟩,Aa⟩:=hB;have di:i∈Region.ready md ops listed:=by simpa using hr
  have next:∀v,sY P ops C o v a->wpQuiet P ops C (λa'=>∀w',D w'->∀r,r=lj->sZ P ops C t Q r a' w') l (a.put o.dst v)->Cn P md ops C t Q ((i::is).length+lj.length) listed a w:=λv hy hk=>by
   have ih:=zf0 hs lM qA hQ is l (listed.setIfInBounds i true) (a.put o.dst v) w (bn.set di) (by simpa using hsz) (by simpa using IK) (λk hk=>by have:=hio (k+1) (by simp;omega);simpa using this) Aa hC hD hk;rw[show (i::is).length+lj.length=(is.length+lj.length)+1 by simp;omega];exact zhG h0 LC (λL hc hl=>LU hc 8 t i hl fg) (Region.noSelect_spec hs) hQ _ listed a w bn (Region.free_spec h0 hf) di hy hC ih
  unfold wpQuiet at h
  by_cases hw:Region.wanted o (yielded ops a.tmps)=true
  ·rw[ae hw]at h;obtain⟨v,hy,hk⟩:=zhU yL hw h;exact next v hy hk
  ·rw[ab hw]at h;exact next undef (.inr ⟨by simpa using hw,rfl⟩) h
 |[],_::_,_,_,_,_,_,h,_,_,_,_,_=>by simp at h
 |_::_,[],_,_,_,_,_,h,_,_,_,_,_=>by simp at h
theorem zn1(is js:List Nat)(t:Nat){a:Act}{w:za}{all:List Oper}(C D:za->Prop)(hC:C w)(hD:D w)(hB:UK .any all is js t=true)(hQ:∀c a a' w,Q (.panic c) a w->Q (.panic c) a' w)
  (h:∀l,l=is.filterMap (λi=>all[i]?)->wpQuiet P all.toArray C (λa'=>∀w',D w'->∀r,r=js.filterMap (λj=>(all[j]?).map λo=>(j,o))->sZ P all.toArray C t Q r a' w') l a):wpAny P .any all.toArray Q all.toArray.size (Array.replicate all.toArray.size false) a w:=by
 simp only[UK,fQ,qQ,pF]at hB;obtain⟨⟨⟨⟨hs,hi⟩,yH⟩,hlen⟩,hj⟩:=hB;have key:∀(is:List Nat),(∀x∈is,(sX .any all.toArray 8 t x=true/\t≠x)/\(match all[x]? with|some o=>Gt o|none=>false)=true)->(is.filterMap (λi=>all[i]?)).length=is.length/\∀k,k<is.length->∃i o,is[k]?=zh i/\(is.filterMap (λi=>all[i]?))[k]?=zh o/\all.toArray[i]?=zh o/\Gt o=true/\sX .any all.toArray 8 t i=true/\t≠i:=by
  intro is
  induction is with
  |nil=>intro _;exact⟨rfl,λk hk=>absurd hk (dP _)⟩
  |cons i is ih=>
   intro hx;obtain⟨⟨q1,q2⟩,q3⟩:=hx i (by simp);obtain⟨r1,r2⟩:=ih (λx Ja=>hx x (by simp[Ja]));cases ho:all[i]? with
   |none=>rw[ho]at q3;cases q3
   |some o=>
    rw[ho]at q3;have e:(i::is).filterMap (λi=>all[i]?)=o::is.filterMap (λi=>all[i]?):=by simp[ho]
    rw[e];refine⟨by simp[r1],λk hk=>?_⟩;cases k with
    |zero=>exact⟨i,o,rfl,rfl,by simpa using ho,q3,q1,q2⟩
    |succ k=>simpa using r2 k (by simpa using hk)
 have zBd:∀(js:List Nat),(∀j∈js,j<all.length)->(js.filterMap (λj=>(all[j]?).map λo=>(j,o))).map Prod.fst=js/\∀x∈js.filterMap (λj=>(all[j]?).map λo=>(j,o)),all.toArray[x.1]?=zh x.2:=by
  intro js
  induction js with
  |nil=>intro _;exact⟨rfl,λx hx=>by cases hx⟩
  |cons j js ih=>
   intro hx;obtain⟨r1,r2⟩:=ih (λx Ja=>hx x (by simp[Ja]));have hl:=hx j (by simp);have e:(j::js).filterMap (λj=>(all[j]?).map λo=>(j,o))=(j,all[j])::js.filterMap (λj=>(all[j]?).map λo=>(j,o)):=by simp[hl]
   rw[e];refine⟨by simp[r1],λx Ja=>?_⟩;rcases tn.1 Ja with rfl|Ja
   ·simp[hl]
   ·exact r2 x Ja
 obtain⟨k1,k2⟩:=key is (λx hx=>by
  obtain⟨⟨a1,a2⟩,a3⟩:=hi x hx;exact⟨⟨a1,a2⟩,a3⟩)
 obtain⟨j1,j2⟩:=zBd js hj;have tX:(js.filterMap (λj=>(all[j]?).map λo=>(j,o))).length=js.length:=by rw[<-jK (f:=Prod.fst),j1]
 have h1:=zf0 (P:=P) (C:=C) (D:=D) (Q:=Q) (md:=.any) (t:=t) hs j1 j2 hQ is _ (Array.replicate all.toArray.size false) a w (mz.start _ _) (by simp) k1 k2 (by simpa using yH) hC hD (h _ rfl);have h2:=zfL _ _ _ _ h1;rw[tX,hlen]at h2
 simpa using h2
theorem ul(is js:List Nat)(t:Nat){id:Nat}{a:Act}{w:za}{all:List Oper}(C D:za->Prop)(hm:P.follows .mixedOrders=true)(hC:C w.drew)(hD:D w.drew)(hB:UK .any all is js t=true)
  (h:∀l,l=is.filterMap (λi=>all[i]?)->wpQuiet P all.toArray C (λa'=>∀w',D w'->∀r,r=js.filterMap (λj=>(all[j]?).map λo=>(j,o))->sZ P all.toArray C t (Cp Q) r a' w') l a):(Code.region id all.toArray true).wp P Q a w:=by
 refine wp_mono (wp_region_any hm ?_) zfx;exact zn1 (Q:=Cp Q) is js t C D hC hD hB (λ_ _ _ _ h=>h.elim) h
theorem zhZ(is js:List Nat)(t:Nat){id:Nat}{a:Act}{w:za}{all:List Oper}(C:za->Prop)(hm:P.follows .mixedOrders=true)(hC:C w.drew)(hB:UK .any all is js t=true)
  (h:∀l,l=is.filterMap (λi=>all[i]?)->wpQuiet P all.toArray C (λa'=>∀w',C w'->∀r,r=js.filterMap (λj=>(all[j]?).map λo=>(j,o))->sZ P all.toArray C t (Cp Q) r a' w') l a):(Code.region id all.toArray true).wp P Q a w:=by
 exact ul is js t C C hm hC hC hB h
end
end
section
open Go
section
variable {P:Program} {md:Region.Mode} {ops:Array Oper} {Q:Exit->Act->za->Prop}
def UJ(md:Region.Mode)(ops:Array Oper):Bool:=(List.range ops.size).all λi=>match ops[i]? with
 |some o=>o.guard.isNone&&o.after.all (λe=>!Region.binds md e || decide (e.on<i))
 |none=>true
def wi(l:Nat->Bool):Nat->Nat
 |0=>0
 |n+1=>wi l n+(if l n=true then 0 else 1)
theorem zjQ(l:Nat->Bool)(i:Nat):∀n,n<=i->wi (λj=>l j || j==i) n=wi l n
 |0,_=>rfl
 |n+1,h=>by
  have e:(n==i)=false:=by simp;omega
  simp only[wi,zjQ l i n (by omega),e,Bool.or_false]
theorem zml(l:Nat->Bool)(i:Nat)(hl:l i=false):∀n,i<n->wi (λj=>l j || j==i) n+1=wi l n
 |0,h=>absurd h (dP _)
 |n+1,h=>by
  by_cases e:n=i
  ·subst e;simp[wi,zjQ l n n (Nat.le_refl _),hl]
  ·have e1:(n==i)=false:=by simpa using e
   have:=zml l i hl n (by omega);simp only[wi,e1,Bool.or_false];omega
theorem zjR(l:Nat->Bool):∀n,wi l n=0->∀i,i<n->l i=true
 |0,_,i,h=>absurd h (dP _)
 |n+1,h,i,hi=>by
  simp only[wi]at h
  by_cases hn:l n=true
  ·by_cases e:i=n
   ·rw[e];exact hn
   ·exact zjR l n (by omega) i (by omega)
  ·rw[ab hn]at h;omega
theorem zpq{listed:Array Bool}(hB:UJ md ops=true)(hr:Region.ready md ops listed=[])(hs:listed.size=ops.size):∀n i,i<=n->i<ops.size->listed.getD i false=true:=by
 intro n
 induction n with
 |zero=>
  intro i hi hl;obtain rfl:i=0:=by omega
  cases h:listed.getD 0 false with
  |true=>rfl
  |false=>
   exfalso
   have hm:(0:Nat)∈Region.ready md ops listed:=by
    refine mem_ready.2 ⟨?_,ops[0],by simp[hl],λe he hb=>?_⟩
    ·rw[Qx]at h ⊢;rw[Gv (by omega)]at h ⊢;exact h
    ·have h1:=qQ.1 hB 0 (mB.2 hl);simp only[Gv hl,fQ,Array.all_eq_true']at h1;have h2:=h1.2 e he;rw[hb]at h2;simp at h2
   rw[hr]at hm;cases hm
 |succ n ih=>
  intro i hi hl
  by_cases e1:i<=n
  ·exact ih i e1 hl
  ·cases h:listed.getD i false with
   |true=>rfl
   |false=>
    exfalso
    have hm:i∈Region.ready md ops listed:=by
     refine mem_ready.2 ⟨?_,ops[i],by simp[hl],λe he hb=>?_⟩
     ·rw[Qx]at h ⊢;rw[Gv (by omega)]at h ⊢;exact h
     ·have h1:=qQ.1 hB i (mB.2 hl);simp only[Gv hl,fQ,Array.all_eq_true']at h1;have h2:=h1.2 e he;rw[hb]at h2;simp at h2;exact ih e.on (by omega) (by omega)
    rw[hr]at hm;cases hm
theorem zk5(J:(Nat->Bool)->Act->za->Prop)(hB:UJ md ops=true)
  (hstep:∀l a w i o,J l a w->ops[i]?=zh o->l i=false->(∀e∈o.after,Region.binds md e=true->l e.on=true)->o.wp P a w (λa' w'=>J (λj=>l j || j==i) a' w') Q)
  (Ow:∀l a w,J l a w->(∀i,i<ops.size->l i=true)->Q .normal a w):
  ∀(fuel:Nat) (listed:Array Bool) (a:Act) (w:za),listed.size=ops.size->wi (λj=>listed.getD j false) ops.size<=fuel->J (λj=>listed.getD j false) a w->wpAny P md ops Q fuel listed a w
 |0,listed,a,w,hs,hc,hJ=>by
  have cj:=zjR (λj=>listed.getD j false) ops.size (by omega);refine⟨List.eq_nil_iff_forall_not_mem.2 λj hj=>?_,Ow _ a w hJ cj⟩;obtain⟨h1,o,ho,-⟩:=mem_ready.1 hj;have hj:j<ops.size:=(gF.1 ho).1;have h2:=cj j hj;simp only[Qx,Gv (show j<listed.size by omega),Option.getD_some]at h1 h2;rw[h1]at h2;cases h2
 |fuel+1,listed,a,w,hs,hc,hJ=>by
  refine⟨λhr=>Ow _ a w hJ λi hi=>zpq hB hr hs i i (ax _) hi,λi hi=>?_⟩;obtain⟨h1,o,ho,cj⟩:=mem_ready.1 hi;have FA:i<ops.size:=(gF.1 ho).1;have hg:=qQ.1 hB i (mB.2 FA);simp only[ho,fQ]at hg;have hl:listed.getD i false=false:=by
   simp only[Qx,Gv (show i<listed.size by omega),Option.getD_some]at h1 ⊢;exact h1
  have FM:(λj=>(listed.setIfInBounds i true).getD j false)=λj=>listed.getD j false || j==i:=by
   funext j
   by_cases e:j=i
   ·subst e;simp[Array.getD_eq_getD_getElem?,show j<listed.size by omega]
   ·have e1:(j==i)=false:=by simpa using e
    simp[Array.getD_eq_getD_getElem?,Ne.symm e,e1]
  unfold wpOp;simp only[ho];rw[ae (by have:=hg.1;simp[Region.wanted];rw[Option.isNone_iff_eq_none.1 this])];refine .inl (Oper.wp_mono (λa' w' hJ'=>?_) (hstep _ a w i o hJ ho hl cj));refine zk5 J hB hstep Ow fuel _ a' w' (by simp[hs]) ?_ (by rw[FM];exact hJ');rw[FM];have:=zml (λj=>listed.getD j false) i hl ops.size FA;omega
theorem zon(l:Nat->Bool):∀n,wi l n<=n
 |0=>ax _
 |n+1=>by have:=zon l n;simp only[wi];split<;>omega
theorem zjF{id:Nat}{a:Act}{w:za}{all:List Oper}(J:(Nat->Bool)->Act->za->Prop)(hm:P.follows .mixedOrders=true)(hB:UJ .any all.toArray=true)(h0:J (λ_=>false) a w.drew)
  (hstep:∀l a w i o,J l a w->all[i]?=zh o->l i=false->(∀e∈o.after,Region.binds .any e=true->l e.on=true)->o.wp P a w (λa' w'=>J (λj=>l j || j==i) a' w') (Cp Q))
  (Ow:∀l a w,J l a w->(∀i,i<all.length->l i=true)->Q .normal a w):(Code.region id all.toArray true).wp P Q a w:=by
 refine wp_mono (wp_region_any hm ?_) zfx;refine zk5 (Q:=Cp Q) J hB (λl a w i o h1 h2=>hstep l a w i o h1 (by simpa using h2)) (λl a w h1 h2=>?_) _ _ a w.drew (by simp) ?_ ?_
 ·rw[oJ];exact Ow l a w h1 (by simpa using h2)
 ·have:=zon (λj=>(Array.replicate all.toArray.size false).getD j false) all.toArray.size
  simpa using this
 ·have e:(λj=>(Array.replicate all.toArray.size false).getD j false)=λ_=>false:=by
   funext j
   simp[Array.getD_eq_getD_getElem?,Array.getElem?_replicate];split<;>rfl
  rw[e];exact h0
theorem zr3{a b:Act}(h1:a.defers=b.defers)(h2:a.tmps.size=b.tmps.size)(h3:∀s,a.eval (.tmp s)=b.eval (.tmp s)):a=b:=by
 obtain⟨t1,d1⟩:=a;obtain⟨t2,d2⟩:=b;have e:t1=t2:=by
  apply Array.ext h2
  intro i cG fA;have:=h3 i;simp only[Act.eval,Qx,Gv cG,Gv fA,Option.getD_some]at this;exact this
 subst e;simp only at h1;subst h1
 rfl
structure Ep(a0 a:Act)(D:List Nat):Prop where
 df:a.defers=a0.defers
 sz:a.tmps.size=a0.tmps.size
 ev:∀s,s∉D->a.eval (.tmp s)=a0.eval (.tmp s)
theorem Ep.refl(a:Act)(D:List Nat):Ep a a D:=⟨rfl,rfl,λ_ _=>rfl⟩
theorem Ep.put{a0 a:Act}{D:List Nat}(h:Ep a0 a D){d:Nat}(hd:d∈D)(v:zi):Ep a0 (a.put (zh d) v) D:=
 ⟨h.df,by simp[Act.put,h.sz],λs hs=>(Act.eval_put (λe he=>by injection he with he;subst he;intro e2;injection e2 with e2;subst e2;exact hs hd)).trans (h.ev s hs)⟩
theorem TP{a:Act}{d:Nat}{v:zi}(h:d<a.tmps.size):(a.put (zh d) v).eval (.tmp d)=v:=by
 simp[Act.put,Act.eval,h]
theorem zia{a:Act}{d s:Nat}{v:zi}(h:s≠d):(a.put (zh d) v).eval (.tmp s)=a.eval (.tmp s):=
 Act.eval_put (λe he=>by injection he with he;subst he;intro e2;injection e2 with e2;exact h e2)
theorem ziR:∀(ps:List (Nat×zi)) (a0 a:Act),Ep a0 a (ps.map Prod.fst)->(∀p∈ps,p.1<a0.tmps.size/\a.eval (.tmp p.1)=p.2)->a=ps.foldl (λa p=>a.put (zh p.1) p.2) a0
 |[],a0,a,h,_=>zr3 h.df h.sz λs=>h.ev s (by simp)
 |p::ps,a0,a,h,hv=>by
  have h1:=hv p (by simp);refine ziR ps (a0.put (zh p.1) p.2) a ⟨h.df,by simp[Act.put,h.sz],λs hs=>?_⟩ λq hq=>⟨by simp[Act.put];exact(hv q (by simp[hq])).1,(hv q (by simp[hq])).2⟩
  by_cases e:s=p.1
  ·subst e;rw[TP h1.1];exact h1.2
  ·rw[zia e];exact h.ev s (by simp only[Be,tn,not_or];exact⟨e,hs⟩)
end
end
section
open Go
section
variable {P:Program} {Q:Exit->Act->za->Prop}
def C4(md:Region.Mode)(o:Oper):List Nat:=(o.after.toList.filter λe=>Region.binds md e).map λe=>e.on
theorem zsh{md:Region.Mode}{o:Oper}{l:Nat->Bool}(h:∀e∈o.after,Region.binds md e=true->l e.on=true):∀j∈C4 md o,l j=true:=by
 intro j hj;simp only[C4,rS,List.mem_filter,Array.mem_toList_iff]at hj;obtain⟨e,⟨he,hb⟩,rfl⟩:=hj;exact h e he hb
def Qp(md:Region.Mode)(all:List Oper)(s:List Nat):Nat->List Nat
 |0=>s
 |k+1=>Qp md all s k++(Qp md all s k).flatMap λj=>match all[j]? with
  |some o=>C4 md o
  |none=>[]
def zv9(md:Region.Mode)(all:List Oper)(n:Nat):Bool:=match all[n]? with
 |some o=>(List.range n).all λj=>(Qp md all (C4 md o) n).contains j
 |none=>false
theorem zhp{md:Region.Mode}{all:List Oper}{l:Nat->Bool}(hc:∀j o,all[j]?=zh o->l j=true->∀i∈C4 md o,l i=true){s:List Nat}(hs:∀j∈s,l j=true):∀k,∀j∈Qp md all s k,l j=true
 |0,j,hj=>hs j hj
 |k+1,j,hj=>by
  rw[Qp,gH]at hj;rcases hj with hj|hj
  ·exact zhp hc hs k j hj
  ·rw[List.mem_flatMap]at hj;obtain⟨i,hi,hj⟩:=hj;cases ho:all[i]? with
   |none=>rw[ho]at hj;cases hj
   |some o=>rw[ho]at hj;exact hc i o ho (zhp hc hs k i hi) j hj
structure UM(a0:Act)(S:List (Nat×Nat))(all:List Oper)(I:(Nat->Bool)->za->Prop)(Φ:Nat->zi->za->Prop)(l:Nat->Bool)(a:Act)(w:za):Prop where
 inv:I l w
 act:Ep a0 a (S.map Prod.snd)
 val:∀q∈S,l q.1=true->Φ q.1 (a.eval (.tmp q.2)) w
 apart:∀q∈S,∀r∈S,l q.1=true->l r.1=true->q≠r->∀b,(a.eval (.tmp q.2)).ownBlock=zh b->(a.eval (.tmp r.2)).ownBlock≠zh b
 zwn:∀j o,all[j]?=zh o->l j=true->∀i∈C4 .any o,l i=true
theorem zfp{id:Nat}{a0:Act}{w:za}{all:List Oper}(n:Nat)(S:List (Nat×Nat))(I:(Nat->Bool)->za->Prop)(Φ:Nat->zi->za->Prop)(hm:P.follows .mixedOrders=true)(hB:UJ .any all.toArray=true)(hC:zv9 .any all n=true)(hlen:all.length=n+1)
  (hS:∀q∈S,q.2<a0.tmps.size) (jG:(S.map Prod.fst).Nodup) (fc:(S.map Prod.snd).Nodup) (hSn:∀q∈S,q.1<n) (h0:I (λ_=>false) w.drew)
  (hlt:∀i u w,Φ i u w->∀b,u.ownBlock=zh b->b<w.heap.size)
  (hstep:∀l a w i o,UM a0 S all I Φ l a w->i<n->all[i]?=zh o->l i=false->(∀j∈C4 .any o,l j=true)->
   o.wp P a w (λa' w'=>I (λj=>l j || j==i) w'/\(∀j u,Φ j u w->Φ j u w')/\∃s v,(i,s)∈S/\a'=a.put (zh s) v/\Φ i v w'/\∀b,v.ownBlock=zh b->w.heap.size<=b) (Cp Q))
  (lL:∀l a w o,UM a0 S all I Φ l a w->all[n]?=zh o->(∀i,i<n->l i=true)->o.wp P a w (λa' w'=>Q .normal a' w') (Cp Q)):
  (Code.region id all.toArray true).wp P Q a0 w:=by
 refine zjF (Q:=Q) (λl a w=>if l n=true then (∀i,i<n->l i=true)/\Q .normal a w else UM a0 S all I Φ l a w) hm hB ?_ ?_ ?_
 ·rw[ab (by simp)];exact⟨h0,Ep.refl _ _,λ_ _ h=>(by cases h),λ_ _ _ _ h=>(by cases h),λ_ _ _ h=>(by cases h)⟩
 ·intro l a w i o hJ ho hl hq;have hi:i<n+1:=by rw[<-hlen];exact(n5.1 ho).1
  have oo:=zsh hq
  by_cases jF:l n=true
  ·rw[ae jF]at hJ;have:i=n\/i<n:=by omega
   rcases this with e|e
   ·subst e;rw[hl]at jF;cases jF
   ·have:=hJ.1 i e;rw[hl]at this;cases this
  ·rw[ab jF]at hJ
   by_cases e:i=n
   ·subst e;have cj:∀j,j<i->l j=true:=by
     unfold zv9 at hC;rw[ho]at hC;intro j hj;have:=qQ.1 hC j (mB.2 hj);exact zhp hJ.zwn oo i j (by simpa using this)
    refine Oper.wp_mono (λa' w' h=>?_) (lL l a w o hJ ho cj);rw[ae (by simp)];exact⟨λj hj=>by simp[cj j hj],h⟩
   ·refine Oper.wp_mono (λa' w' h=>?_) (hstep l a w i o hJ (by omega) ho hl oo);rw[ab (by simp[jF];omega)];obtain⟨hI,hk,s,v,hs,rfl,hv,hf⟩:=h;have OY:s<a.tmps.size:=by rw[hJ.act.sz];exact hS _ hs
    have hne:∀q∈S,q.1≠i->q.2≠s:=by
     intro q pY im e2;obtain⟨x,hx,ex⟩:=tu.1 pY;obtain⟨y,hy,ey⟩:=tu.1 hs;have h1:(S.map Prod.snd)[x]?=(S.map Prod.snd)[y]?:=by
      simp only[vE,bE hx,bE hy,ex,ey,qS,e2]
     have h2:=(List.getElem?_inj (by simpa using hx) fc).1 h1;subst h2;rw[ex]at ey;exact im (by rw[ey])
    have pO:∀q∈S,q.1=i->q=(i,s):=by
     intro q pY im;obtain⟨x,hx,ex⟩:=tu.1 pY;obtain⟨y,hy,ey⟩:=tu.1 hs;have h1:(S.map Prod.fst)[x]?=(S.map Prod.fst)[y]?:=by
      simp only[vE,bE hx,bE hy,ex,ey,qS,im]
     have h2:=(List.getElem?_inj (by simpa using hx) jG).1 h1;subst h2;exact ex.symm.trans ey
    have hold:∀q∈S,(l q.1 || q.1==i)=true->q≠(i,s)->l q.1=true/\(a.put (zh s) v).eval (.tmp q.2)=a.eval (.tmp q.2):=by
     intro q pY im Zh;have h1:q.1≠i:=λe=>Zh (pO q pY e)
     refine⟨by simpa [h1]using im,zia (hne q pY h1)⟩
    refine⟨hI,hJ.act.put (rS.2 ⟨_,hs,rfl⟩) v,λq pY im=>?_,λq pY r iX im sF yK b hb=>?_,λj o' FG hj i' qy=>?_⟩
    ·by_cases e2:q=(i,s)
     ·subst e2;rw[TP OY];exact hv
     ·obtain⟨h1,h2⟩:=hold q pY im e2;rw[h2];exact hk _ _ (hJ.val q pY h1)
    ·by_cases e2:q=(i,s)<;>by_cases e3:r=(i,s)
     ·exact absurd (e2.trans e3.symm) yK
     ·obtain⟨h1,h2⟩:=hold r iX sF e3;subst e2;rw[TP OY]at hb;rw[h2];intro hc;have:=hlt _ _ _ (hJ.val r iX h1) b hc;have:=hf b hb;omega
     ·obtain⟨h1,h2⟩:=hold q pY im e2;subst e3;rw[h2]at hb;rw[TP OY];intro hc;have:=hlt _ _ _ (hJ.val q pY h1) b hb;have:=hf b hc;omega
     ·obtain⟨h1,h2⟩:=hold q pY im e2;obtain⟨h3,h4⟩:=hold r iX sF e3;rw[h2]at hb;rw[h4];exact hJ.apart q pY r iX h1 h3 yK b hb
    ·by_cases e2:j=i
     ·subst e2;rw[ho]at FG;cases FG;simp[oo i' qy]
     ·have hj':l j=true:=by simpa [e2]using hj
      simp[hJ.zwn j o' FG hj' i' qy]
 ·intro l a w hJ cj;have jF:l n=true:=cj n (by omega);rw[ae jF]at hJ;exact hJ.2
end
end
structure fJ(p:Nat)(w:za)(B R g:Nat)(W:za)(width:Int)(v:Nat->zi)(ls:Nat->List Int):Prop where
 aq:aS B 4 W v ls
 box:W.heap[g]?=zh (.cells (fH width v) 25 (0,0))
 dv:W.heap[R]?=zh (.cells bm 25 (0,0))
 kept:aJ p w W
 base:p<w.heap.size/\w.heap.size<=B/\w.heap.size<=R/\w.heap.size<=g/\R≠g
theorem aJ.Tp{p lo:Nat}{w w':za}(h:aJ p w w')(hl:p<lo):Same lo w w':=⟨h.size,λk hk hs=>h.block k hs (by omega)⟩
theorem aJ.wS{p:Nat}{w w':za}(h:aJ p w w'){b:Nat}(hb:w.heap.size<=b)(i:Nat)(u:zi):aJ p w (w'.setCell ⟨b,i,zn⟩ u):=
 ⟨h.os,h.tape,h.output,by simpa [World.setCell]using h.size,λk hk hs=>(cS _ _ _ _ (show k≠b by omega)).trans (h.block k hk hs)⟩
theorem aJ.grown{p:Nat}{w W W':za}(h:aJ p w W){r:Option Nat}(hg:W.grownBy W' r)(hr:∀b,r=zh b->w.heap.size<=b):aJ p w W':=
 ⟨hg.os.trans h.os,hg.tape.trans h.tape,hg.output.trans h.output,cM h.size hg.size,λk hk hs=>(hg.block k (fR hk h.size) (λe=>by have:=hr k e.symm;omega)).trans (h.block k hk hs)⟩
section
variable {p:Nat} {w W W':za} {B R g:Nat} {width:Int} {v:Nat->zi} {ls:Nat->List Int}
theorem fJ.low(h:fJ p w B R g W width v ls):g<W.heap.size/\p<B/\p≠g/\p≠R/\p<W.heap.size:=by
 have:=h.base;have:=az h.box;omega
theorem fJ.kp(h:fJ p w B R g W width v ls)(hk:aJ p W W'):fJ p w B R g W' width v ls:=by
 have hb:=h.base;exact⟨h.aq.keep λb aP aL=>hk.block b aL (by omega),(hk.block g (az h.box) (by omega)).trans h.box,(hk.block R (az h.dv) (by omega)).trans h.dv,h.kept.trans hk,hb⟩
theorem fJ.field(h:fJ p w B R g W width v ls){i:Nat}(hi:i<4)(off:Nat)(ho:sK i=off){u:zi}{ys:List Int}(hF:aS B 4 W' (upd v i u) (bq ls i ys))(hg:W.grownBy W' (v i).ownBlock):
  W'.heap[g]?=zh (.cells (fH width v) 25 (0,0))/\fJ p w B R g (W'.setCell ⟨g,off,zn⟩ u) width (upd v i u) (bq ls i ys):=by
 subst ho;have hb:=h.base;have bN:=h.aq.others (i:=i) (by omega) hg (by decide) h.box;have AG:=h.aq.others (i:=i) (by omega) hg (by decide) h.dv;refine⟨bN,hF.sI λj hj b eB=>cS _ _ _ _ (λe=>?_),?_,(cS _ _ _ _ (show R≠g by omega)).trans AG,(h.kept.grown hg λb eB=>?_).wS (by omega) _ _,hb⟩
 ·obtain⟨a9,hc⟩:=jx (hF.own j hj) eB;rw[e,bN]at hc;exact absurd (er hc) (by decide)
 ·have:=dx W' g (sK i) _ _ u bN;rw[PX _ _ _ hi]at this;exact this
 ·have:=(eN (h.aq.own i hi) eB).1;omega
theorem fJ.put(h:fJ p w B R g W width v ls){i:Nat}(hi:i<4){b m cap:Nat}(hv:v i=zw (zh ⟨b,0,zn⟩) m cap)(hm:(ls i).length=m)(j:Nat)(y:Int):
  fJ p w B R g (W.setCell ⟨b,j,zn⟩ (zp .i64 y)) width v (bq ls i ((ls i).set j y)):=by
 have hb:=h.base;have eB:(v i).ownBlock=zh b:=by rw[hv];rfl
 obtain⟨a9,hc⟩:=jx (h.aq.own i hi) eB;have oC:=(eN (h.aq.own i hi) eB).1;have hne:∀{k:Nat} {C:Array zi},W.heap[k]?=zh (.cells C 25 (0,0))->k≠b:=λhk e=>by
  rw[e,hc]at hk;exact absurd (er hk) (by decide)
 exact⟨h.aq.put hi hv hm j y,(cS _ _ _ _ (hne h.box)).trans h.box,(cS _ _ _ _ (hne h.dv)).trans h.dv,h.kept.wS (by omega) _ _,hb⟩
theorem fJ.at(h:fJ p w B R g W width v ls){i:Nat}(hi:i<4){b m cap:Nat}(hv:v i=zw (zh ⟨b,0,zn⟩) m cap):(∀j,j<(ls i).length->W.cell? ⟨b,j,zn⟩=zh (zp .i64 ((ls i).getD j 0)))/\∀j,W.frozen? ⟨b,j,zn⟩=false:=by
 obtain⟨a9,hc⟩:=jx (h.aq.own i hi) (by rw[hv];rfl);refine⟨λj hj=>?_,λj=>aR _ _ _ _ _ hc⟩;obtain⟨b',cap',hv',_,_,h3⟩:=pC (h.aq.own i hi) (by omega);rw[hv]at hv';injection hv' with e _ _
 injection e with e
 injection e with e
 subst e;exact h3 j hj
theorem fJ.yn(h:fJ p w B R g W width v ls){c:List UInt8}{a:Nat}{r:Int}(hd:a7 W p c a r){i:Nat}(hi:i<4)(hg:W.grownBy W' (v i).ownBlock)(off:Nat)(u:zi):a7 (W'.setCell ⟨g,off,zn⟩ u) p c a r:=by
 have hb:=h.base;exact hd.keep λk hk=>(cS _ _ _ _ (show k≠g by omega)).trans (hg.block k (by have:=hd.lt;omega) (λe=>by have:=(eN (h.aq.own i hi) e.symm).1;omega))
theorem fJ.row(h:fJ p w B R g W width v ls){i:Nat}(hi:i<4)(h0:0<(ls i).length):∃b cap,v i=zw (zh ⟨b,0,zn⟩) (ls i).length cap/\B<b/\b<W.heap.size/\(∀j,j<(ls i).length->W.cell? ⟨b,j,zn⟩=zh (zp .i64 ((ls i).getD j 0)))/\∀j,W.frozen? ⟨b,j,zn⟩=false:=by
 obtain⟨b,cap,hv,h1,h2,h3⟩:=pC (h.aq.own i hi) h0;obtain⟨a9,hc⟩:=jx (h.aq.own i hi) (by rw[hv];rfl);exact⟨b,cap,hv,h1,h2,h3,λj=>aR _ _ _ _ _ hc⟩
end
def xA(p:Nat)(w:za)(c:List UInt8)(d:aE)(a:Nat)(r:Int)(e:Ending)(w':za):Prop:=∃cv nv tv ev,e=.returned (.agg #[cv,zp .i64 d.width,nv,tv,ev])/\dk w.heap.size w' cv nv tv ev d/\a7 w' p c a r/\aJ p w w'
theorem a7.put{w:za}{p:Nat}{c:List UInt8}{a:Nat}{r:Int}(h:a7 w p c a r){b:Nat}(hb:p<b)(i:Nat)(u:zi):a7 (w.setCell ⟨b,i,zn⟩ u) p c a r:=h.keep λk hk=>cS _ _ _ _ (show k≠b by omega)
theorem a7.grown{w w':za}{p:Nat}{c:List UInt8}{a:Nat}{r:Int}(h:a7 w p c a r){o:Option Nat}(hg:w.grownBy w' o)(ho:∀b,o=zh b->p<b):a7 w' p c a r:=h.keep λk hk=>hg.block k (by have:=h.lt;omega) (λe=>by have:=ho k e.symm;omega)
structure fD(p:Nat)(X:za) where
 W:za
 h:aJ p X W
instance zBJ (p:Nat) (X:za):Nonempty (fD p X):=⟨⟨X,aJ.refl _ _⟩⟩
theorem yY(xs:Array zi)(w:za):(callFunc 27 xs).run prog w=.ok (.enter 27 xs) w:=by kernel_rfl
theorem aJ.drew{p:Nat}{w w':za}(h:aJ p w w'):aJ p w w'.drew:=⟨h.os,h.tape,h.output,h.size,h.block⟩
theorem aJ.alloc{p:Nat}{w w':za}(h:aJ p w w')(o:Obj):aJ p w (w'.alloc o):=h.trans (.of (aC))
section
variable {P:Program} {ρ:Operand->zi} {o:Oper}
theorem TZ{x:Operand}(ho:o.op=.move x)(w:za):(execOp ρ o).run P w=.ok (.value (ρ x)) w:=by
 obtain⟨dst,op,type,pos,after,guard⟩:=o;simp only at ho;subst ho
 rfl
theorem ziK(ho:o.op=.alloc 25)(w:za):(execOp ρ o).run prog w=.ok (.value (.pointer (zh ⟨w.heap.size,0,zn⟩))) (w.alloc (.cells bm 25)):=by
 obtain⟨dst,op,type,pos,after,guard⟩:=o;simp only at ho;subst ho;simp[execOp,go_sem,bm]
theorem zpI{l c:Operand}(ho:o.op=.makeSlice 23 l c){n:Nat}(hn:n<=100000)(hl:ρ l=zp .i64 (n:Int))(hc:ρ c=zp .i64 (n:Int))(w:za)(base:Nat)(hb:base<=w.heap.size):
  ∃w',(execOp ρ o).run prog w=.ok (.value (zw (zh ⟨w.heap.size,0,zn⟩) n n)) w'/\w'.ownsRow base 3 1 (zw (zh ⟨w.heap.size,0,zn⟩) n n) n (iY (List.replicate n 0))/\w.grownBy w' zn:=by
 obtain⟨dst,op,type,pos,after,guard⟩:=o;simp only at ho;subst ho;obtain⟨i0,hi,eQ,eR,dR⟩:=info_parts Try.wP;obtain⟨w',h1,h2,h3⟩:=run_make_full (P:=prog) w base 23 3 i0 _ 1 underlying23 hi eQ eR .i64 .i64 n (by rw[dR];omega) (by unfold maxLen;omega) hb;rw[PZ]at h2;refine⟨w',?_,h2,h3⟩;simp[execOp,hl,hc,h1,Result.andThen]
theorem zrk{x y:Operand}(ho:o.op=.binOp .add 3 x y 3){m k s:Int}(hx:ρ x=zp .i64 m)(hy:ρ y=zp .i64 k)(hw:IntKind.i64.wrap (m+k)=s)(w:za):(execOp ρ o).run prog w=.ok (.value (zp .i64 s)) w:=by
 obtain⟨dst,op,type,pos,after,guard⟩:=o;simp only at ho;subst ho;simp[execOp,hx,hy,go_sem,hw]
theorem znV{f:FuncId}{x y:Operand}{ats:Array TypeId}(ho:o.op=.call {callee:=.value (.func f),args:=#[x,y],argTypes:=ats}){u v:zi}(hf:ρ (.func f)=.func (.func f) #[] #[])(hx:ρ x=u)(hy:ρ y=v)(w:za)(oq:(callFunc f #[u,v]).run P w=.ok (.enter f #[u,v]) w):(execOp ρ o).run P w=.ok (.enter f #[u,v]) w:=by
 obtain⟨dst,op,type,pos,after,guard⟩:=o;simp only at ho;subst ho;subst hx;subst hy;have e:execOp ρ {dst,op:=.call {callee:=.value (.func f),args:=#[x,y],argTypes:=ats},type,pos,after,guard}=callFunc f (#[]++#[x,y].map ρ++#[]):=by
  show (do let d <-Deferred.ofValue (ρ (.func f)) (#[x,y].map ρ);invoke d.target d.args)=_;rw[hf]
  rfl
 rw[e]
 simpa using oq
end
section
variable {P:Program} {o:Oper} {a:Act} {w w':za} {K:Act->za->Prop} {Q:Exit->Act->za->Prop} {d:Nat} {v:zi} {f:FuncId} {xs:Array zi}
theorem Ch(hx:(execOp a.eval o).run P w=.ok (.value v) w')(hd:o.dst=zh d)(hK:K (a.put (zh d) v) w'):o.wp P a w K Q:=by
 unfold Oper.wp;rw[hx,Oper.upon_value,hd];exact hK
theorem zpQ(hx:(execOp a.eval o).run P w=.ok (.enter f xs) w)(hd:o.dst=zh d)(hc:Calls P f xs w λe w'=>∃v,e=.returned v/\K (a.put (zh d) v) w'):o.wp P a w K Q:=by
 unfold Oper.wp;rw[hx,Oper.upon_enter];refine hc.mono ?_;rintro e w' ⟨v,rfl,h⟩;rw[hd];exact h
theorem zkV(hx:(execOp a.eval o).run P w=.ok .skip w')(hd:o.dst=zn)(hK:K a w'):o.wp P a w K Q:=by
 unfold Oper.wp;rw[hx,Oper.upon_skip,hd];exact hK
end
theorem um{P:Program}{ops:Array Oper}{Cw:za->Prop}{Q:Exit->Act->za->Prop}{t j:Nat}{o:Oper}{l:List (Nat×Oper)}{a:Act}{w:za}(hk:t∉l.map Prod.fst)(hL:∀a w,¬Q .outgrown a w)(h:wpList P ops Q (o::l.map Prod.snd) a w):sZ P ops Cw t Q ((j,o)::l) a w:=by
 unfold wpList at h;unfold sZ
 by_cases hw:Region.wanted o (yielded ops a.tmps)=true
 ·rw[ae hw]at h ⊢;rcases h with h|h
  ·exact Oper.wp_mono (λa w h=>⟨λe=>absurd e hk,TD l a w hk hL h⟩) h
  ·obtain⟨_,a',w',h'⟩:=h;exact absurd h' (hL a' w')
 ·rw[ab hw]at h ⊢;exact⟨λe=>absurd e hk,TD l _ w hk hL h⟩
theorem ziL{ρ:Operand->zi}{o:Oper}{x y:Operand}(ho:o.op=.store 25 x y){g n0 n1 n2 n3 c0 c1 c2 c3:Nat}{wd:Int}{a0 a1 a2 a3:Option Addr}(hx:ρ x=.pointer (zh ⟨g,0,zn⟩))(hy:ρ y=.agg #[.slice a0 n0 c0,zp .i64 wd,.slice a1 n1 c1,.slice a2 n2 c2,.slice a3 n3 c3]){w:za}(r:w.heap[g]?=zh (.cells bm 25 (0,0))):
  (execOp ρ o).run prog w=.ok .skip (dJ w g (.slice a0 n0 c0) (zp .i64 wd) (.slice a1 n1 c1) (.slice a2 n2 c2) (.slice a3 n3 c3)):=by
 obtain⟨dst,op,type,pos,after,guard⟩:=o;simp only at ho;subst ho;have f0:=aR _ _ 0 _ _ r;have f1:=aR _ _ 1 _ _ r;have f2:=aR _ _ 2 _ _ r;have f3:=aR _ _ 3 _ _ r;have f4:=aR _ _ 4 _ _ r;unfold bm at r;obtain⟨q0,q1,q2,q3,q4⟩:=bL r;simp[execOp,hx,hy,go_sem,q0,q1,q2,q3,q4,f0,f1,f2,f3,f4,dJ]
theorem zjv{W:za}{g:Nat}{wd:Int}{v:Nat->zi}{z0 z1 z2 z3 z4:zi}(h:W.heap[g]?=zh (.cells #[z0,z1,z2,z3,z4] 25 (0,0))):(dJ W g (v 0) (zp .i64 wd) (v 1) (v 2) (v 3)).heap[g]?=zh (.cells (fH wd v) 25 (0,0)):=by
 unfold dJ;exact dx _ _ _ _ _ _ (dx _ _ _ _ _ _ (dx _ _ _ _ _ _ (dx _ _ _ _ _ _ (dx _ _ _ _ _ _ h))))
theorem A4{W:za}{g k:Nat}{u0 u1 u2 u3 u4:zi}(h:k≠g):(dJ W g u0 u1 u2 u3 u4).heap[k]?=W.heap[k]?:=by
 unfold dJ;rw[cS _ _ _ _ h,cS _ _ _ _ h,cS _ _ _ _ h,cS _ _ _ _ h,cS _ _ _ _ h]
theorem P4{p:Nat}{w W:za}(h:aJ p w W){g:Nat}(hg:w.heap.size<=g)(u0 u1 u2 u3 u4:zi):aJ p w (dJ W g u0 u1 u2 u3 u4):=by
 unfold dJ;exact((((h.wS hg _ _).wS hg _ _).wS hg _ _).wS hg _ _).wS hg _ _
theorem PQ{o:Oper}{a:Act}{w:za}{K:Act->za->Prop}{Q:Exit->Act->za->Prop}{d n:Nat}{l c:Operand}(ho:o.op=.makeSlice 23 l c)(hn:n<=100000)(hl:a.eval l=zp .i64 (n:Int))(hc:a.eval c=zp .i64 (n:Int))(base:Nat)(hb:base<=w.heap.size)(hd:o.dst=zh d)
  (hK:∀w',dQ base w' (zw (zh ⟨w.heap.size,0,zn⟩) n n) (List.replicate n 0)->w.grownBy w' zn->K (a.put (zh d) (zw (zh ⟨w.heap.size,0,zn⟩) n n)) w'):o.wp prog a w K Q:=by
 obtain⟨w',h1,h2,h3⟩:=zpI ho hn hl hc w base hb;refine Ch h1 hd (hK w' ?_ h3);have e:iY (List.replicate n 0)=(List.replicate n (0:Int)).map mU:=by simp[iY,mU]
 rw[e]at h2;unfold dQ;rw[xI];exact h2
theorem ztT{x:Int}(h1:-1000000000000000000<=x)(h2:x<=1000000000000000000):IntKind.i64.wrap x=x:=by
 simp[IntKind.wrap,IntKind.bits,IntKind.signed];omega
theorem fJ.done{p:Nat}{w W:za}{B R g:Nat}{width:Int}{v:Nat->zi}{ls:Nat->List Int}(h:fJ p w B R g W width v ls){c:List UInt8}{a:Nat}{r:Int}(hd:a7 W p c a r)(hl:∀i,i<4->(ls i).length<=1048576):
  dk w.heap.size (dJ W R (v 0) (zp .i64 width) (v 1) (v 2) (v 3)) (v 0) (v 1) (v 2) (v 3) ⟨ls 0,width,ls 1,ls 2,ls 3⟩/\a7 (dJ W R (v 0) (zp .i64 width) (v 1) (v 2) (v 3)) p c a r/\aJ p w (dJ W R (v 0) (zp .i64 width) (v 1) (v 2) (v 3)):=by
 have hb:=h.base;have hF:aS B 4 (dJ W R (v 0) (zp .i64 width) (v 1) (v 2) (v 3)) v ls:=h.aq.sI λi hi b eB=>A4 λe=>by
  obtain⟨a9,hc⟩:=jx (h.aq.own i hi) eB;rw[e,h.dv]at hc;exact absurd (er hc) (by decide)
 have hO:∀i,i<4->dW w.heap.size (dJ W R (v 0) (zp .i64 width) (v 1) (v 2) (v 3)) (v i) (ls i):=λi hi=>((hF.own i hi).at (by have:=hl i hi;omega)).low (by omega)
 exact⟨⟨hO 0 (by omega),hO 1 (by omega),hO 2 (by omega),hO 3 (by omega)⟩,hd.keep λk hk=>A4 (by omega),P4 h.kept (by omega) _ _ _ _ _⟩
end Go.Proofs.Ytfajjdgkiilhfaa
