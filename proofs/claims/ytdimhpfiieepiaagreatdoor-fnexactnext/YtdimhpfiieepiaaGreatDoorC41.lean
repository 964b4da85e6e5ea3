import Derived.Test.YtdimhpfiieepiaaGreatDoorC40
namespace Go.Proofs.YtdimhpfiieepiaaGreatDoor
open Proofs.Tryz
open Option renaming some->za,none->zb
open Value renaming slice->zc,pointer->zf
open Go renaming World->zd,Value->aa,TypeId->zk
open Obj renaming cells->ze
open RowKit renaming Hid->zg,Below->zj
set_option maxHeartbeats 2000000
set_option maxRecDepth 100000
section
open Go
section
variable {P:Program} {ops:Array Oper} {md:Region.Mode} {C:zd->Prop} {Q:Exit->Act->zd->Prop}
def Iv(md:Region.Mode)(ops:Array Oper):List Nat->Array Bool->Bool
 |[],listed=>(Region.ready md ops listed).isEmpty
 |j::js,listed=>(Region.ready md ops listed == [j])&&Iv md ops js (listed.setIfInBounds j true)
def oq(P:Program)(ops:Array Oper)(C:zd->Prop)(t:Nat)(Q:Exit->Act->zd->Prop):List (Nat×Oper)->Act->zd->Prop
 |[],a,w=>Q .normal a w
 |(_,o)::rest,a,w=>if Region.wanted o (yielded ops a.tmps) then o.wp P a w (λa' w'=>(t∈rest.map Prod.fst->C w')/\oq P ops C t Q rest a' w') Q else (t∈rest.map Prod.fst->C w)/\oq P ops C t Q rest (a.put o.dst undef) w
theorem Vf{t:Nat}:∀(js:List Nat) (l:List (Nat×Oper)) (listed:Array Bool) (a:Act) (w:zd),l.map Prod.fst=js->(∀x∈l,ops[x.1]?=za x.2)->(∀k,listed.getD k true=false->k∈js)->Iv md ops js listed=true->oq P ops C t Q l a w->wE P md ops C t Q l.length listed a w
 |[],[],listed,_,_,_,_,_,hB,h=>by
  simp only[Iv,List.isEmpty_iff]at hB;exact⟨hB,h⟩
 |j::js,(j',o)::l,listed,a,w,hl,ho,hk,hB,h=>by
  obtain⟨rfl,uC⟩:j'=j/\l.map Prod.fst=js:=by simpa using hl
  simp only[Iv,dE,beq_iff_eq]at hB;have h0:ops[j']?=za o:=ho (j',o) (by simp);have xn:∀k,(listed.setIfInBounds j' true).getD k true=false->k∈js:=λk hf=>by
   by_cases e:j'=k
   ·subst e;rcases gh j' listed.size with h'|h'
    ·simp[h']at hf
    ·simp at hf
   ·rw[LG e]at hf;rcases oB.1 (hk k hf) with h1|h1
    ·exact absurd h1.symm e
    ·exact h1
  have ih:=λa w h=>Vf (t:=t) js l (listed.setIfInBounds j' true) a w uC (λx hx=>ho x (by simp[hx])) xn hB.2 h
  have zv7:∀{p:Prop},(t∈l.map Prod.fst->p)->(listed.setIfInBounds j' true).getD t true=false->p:=λhp hf=>hp (by rw[uC];exact xn t hf)
  refine⟨λe=>absurd e (by rw[hB.1];simp),λi hi=>?_⟩;rw[hB.1]at hi;have e:i=j':=by simpa using hi
  subst e;unfold wpOp;simp only[h0];unfold oq at h
  by_cases hw:Region.wanted o (yielded ops a.tmps)=true
  ·rw[aD hw]at h ⊢;exact .inl (Oper.wp_mono (λa w h=>⟨zv7 h.1,ih a w h.2⟩) h)
  ·rw[aq hw]at h ⊢;exact⟨zv7 h.1,ih _ _ h.2⟩
 |[],(_,_)::_,_,_,_,h,_,_,_,_=>by simp at h
 |_::_,[],_,_,_,h,_,_,_,_=>by simp at h
def K8(md:Region.Mode)(ops:Array Oper)(js:List Nat):List Nat->Array Bool->Bool
 |[],listed=>Iv md ops js listed&&(List.range ops.size).all (λk=>listed.getD k true || js.contains k)
 |i::is,listed=>(Region.ready md ops listed).contains i&&Region.free md ops listed i&&K8 md ops js is (listed.setIfInBounds i true)
def T9(md:Region.Mode)(all:List Oper)(is js:List Nat)(t:Nat):Bool:=
 Region.noSelect all.toArray&&is.all (λi=>og md all.toArray 8 t i&&decide (t≠i)&&(match all[i]? with|some o=>Fy o|none=>false))&&K8 md all.toArray js is (Array.replicate all.length false)&&decide (is.length+js.length=all.length)&&js.all (λj=>decide (j<all.length))
theorem zhs{t:Nat}{js:List Nat}{lj:List (Nat×Oper)}(hs:Region.noSelect ops=true)(Cy:lj.map Prod.fst=js)(qz:∀x∈lj,ops[x.1]?=za x.2)(hQ:∀c a a' w,Q (.panic c) a w->Q (.panic c) a' w):
  ∀(is:List Nat) (l:List Oper) (listed:Array Bool) (a:Act) (w:zd),mF md ops listed->listed.size=ops.size->l.length=is.length->(∀k,k<is.length->∃i o,is[k]?=za i/\l[k]?=za o/\ops[i]?=za o/\Fy o=true/\og md ops 8 t i=true/\t≠i)->
   K8 md ops js is listed=true->C w->wpQuiet P ops C (λa'=>∀w',C w'->∀r,r=lj->oq P ops C t Q r a' w') l a->wE P md ops C t Q (is.length+lj.length) listed a w
 |[],[],listed,a,w,ik,hsz,_,_,hB,hC,h=>by
  simp only[K8,dE,jl,wI,sw,List.contains_iff_mem]at hB;rw[oA,kn];refine Vf js lj listed a w Cy qz (λk hk=>?_) hB.1 (h w hC _ rfl);have hlt:k<ops.size:=by
   rcases gh k ops.size with h'|h'
   ·exact h'
   ·rw[<-hsz]at h';simp[Array.getElem?_eq_none h']at hk
  rcases hB.2 k hlt with h1|h1
  ·rw[hk]at h1;cases h1
  ·exact h1
 |i::is,o::l,listed,a,w,ik,hsz,GP,Cv,hB,hC,h=>by
  obtain⟨i',o',e1,e2,h0,mW,rR,Ex⟩:=Cv 0 (by simp);simp at e1 e2;subst e1;subst e2;simp only[K8,dE]at hB;obtain⟨⟨hr,hf⟩,Ca⟩:=hB;have bZ:i∈Region.ready md ops listed:=by simpa using hr
  have next:∀v,pY P ops C o v a->wpQuiet P ops C (λa'=>∀w',C w'->∀r,r=lj->oq P ops C t Q r a' w') l (a.put o.dst v)->wE P md ops C t Q ((i::is).length+lj.length) listed a w:=λv hy hk=>by
   have ih:=zhs hs Cy qz hQ is l (listed.setIfInBounds i true) (a.put o.dst v) w (ik.set bZ) (by simpa using hsz) (by simpa using GP) (λk hk=>by have:=Cv (k+1) (by simp;omega);simpa using this) Ca hC hk;rw[show (i::is).length+lj.length=(is.length+lj.length)+1 by simp;omega];exact Vo h0 Ex (λL hc hl=>EO hc 8 t i hl rR) (Region.noSelect_spec hs) hQ _ listed a w ik (Region.free_spec h0 hf) bZ hy hC ih
  unfold wpQuiet at h
  by_cases hw:Region.wanted o (yielded ops a.tmps)=true
  ·rw[aD hw]at h;obtain⟨v,hy,hk⟩:=zi1 mW hw h;exact next v hy hk
  ·rw[aq hw]at h;exact next undef (.inr ⟨by simpa using hw,rfl⟩) h
 |[],_::_,_,_,_,_,_,h,_,_,_,_=>by simp at h
 |_::_,[],_,_,_,_,_,h,_,_,_,_=>by simp at h
theorem zqp(is js:List Nat)(t:Nat){a:Act}{w:zd}{all:List Oper}(C:zd->Prop)(hC:C w)(hB:T9 .any all is js t=true)(hQ:∀c a a' w,Q (.panic c) a w->Q (.panic c) a' w)
  (h:∀l,l=is.filterMap (λi=>all[i]?)->wpQuiet P all.toArray C (λa'=>∀w',C w'->∀r,r=js.filterMap (λj=>(all[j]?).map λo=>(j,o))->oq P all.toArray C t Q r a' w') l a):wpAny P .any all.toArray Q all.toArray.size (Array.replicate all.toArray.size false) a w:=by
 simp only[T9,dE,jl,oD]at hB;obtain⟨⟨⟨⟨hs,hi⟩,AH⟩,hlen⟩,hj⟩:=hB;have key:∀(is:List Nat),(∀x∈is,(og .any all.toArray 8 t x=true/\t≠x)/\(match all[x]? with|some o=>Fy o|none=>false)=true)->(is.filterMap (λi=>all[i]?)).length=is.length/\∀k,k<is.length->∃i o,is[k]?=za i/\(is.filterMap (λi=>all[i]?))[k]?=za o/\all.toArray[i]?=za o/\Fy o=true/\og .any all.toArray 8 t i=true/\t≠i:=by
  intro is
  induction is with
  |nil=>intro _;exact⟨rfl,λk hk=>absurd hk (dk _)⟩
  |cons i is ih=>
   intro hx;obtain⟨⟨q1,q2⟩,q3⟩:=hx i (by simp);obtain⟨r1,r2⟩:=ih (λx kA=>hx x (by simp[kA]));cases ho:all[i]? with
   |none=>rw[ho]at q3;cases q3
   |some o=>
    rw[ho]at q3;have e:(i::is).filterMap (λi=>all[i]?)=o::is.filterMap (λi=>all[i]?):=by simp[ho]
    rw[e];refine⟨by simp[r1],λk hk=>?_⟩;cases k with
    |zero=>exact⟨i,o,rfl,rfl,by simpa using ho,q3,q1,q2⟩
    |succ k=>simpa using r2 k (by simpa using hk)
 have K4:∀(js:List Nat),(∀j∈js,j<all.length)->(js.filterMap (λj=>(all[j]?).map λo=>(j,o))).map Prod.fst=js/\∀x∈js.filterMap (λj=>(all[j]?).map λo=>(j,o)),all.toArray[x.1]?=za x.2:=by
  intro js
  induction js with
  |nil=>intro _;exact⟨rfl,λx hx=>by cases hx⟩
  |cons j js ih=>
   intro hx;obtain⟨r1,r2⟩:=ih (λx kA=>hx x (by simp[kA]));have hl:=hx j (by simp);have e:(j::js).filterMap (λj=>(all[j]?).map λo=>(j,o))=(j,all[j])::js.filterMap (λj=>(all[j]?).map λo=>(j,o)):=by simp[hl]
   rw[e];refine⟨by simp[r1],λx kA=>?_⟩;rcases oB.1 kA with rfl|kA
   ·simp[hl]
   ·exact r2 x kA
 obtain⟨k1,k2⟩:=key is (λx hx=>by
  obtain⟨⟨a1,a2⟩,a3⟩:=hi x hx;exact⟨⟨a1,a2⟩,a3⟩)
 obtain⟨j1,j2⟩:=K4 js hj;have GM:(js.filterMap (λj=>(all[j]?).map λo=>(j,o))).length=js.length:=by rw[<-tU (f:=Prod.fst),j1]
 have h1:=zhs (P:=P) (C:=C) (Q:=Q) (md:=.any) (t:=t) hs j1 j2 hQ is _ (Array.replicate all.toArray.size false) a w (mF.start _ _) (by simp) k1 k2 (by simpa using AH) hC (h _ rfl);have h2:=Pg _ _ _ _ h1;rw[GM,hlen]at h2
 simpa using h2
theorem zhu(is js:List Nat)(t:Nat){id l nn:Nat}{a:Act}{w:zd}{all:List Oper}(C:zd->Prop)(hm:P.follows .mixedOrders=true)(hC:C w.drew)(hB:T9 .any all is js t=true)(hD:WO all=true)
  (h:∀l,l=is.filterMap (λi=>all[i]?)->wpQuiet P all.toArray C (λa'=>∀w',C w'->∀r,r=js.filterMap (λj=>(all[j]?).map λo=>(j,o))->oq P all.toArray C t (vk Q) r a' w') l a):(Code.region id all.toArray true).wpIn (Fence.wide.inRound l) nn P Q a w:=by
 refine wpIn_mono (wpIn_region_any hm ?_) E7;have h1:=zqp (Q:=vk Q) is js t C hC hB (λ_ _ _ _ h=>h.elim) h;exact LC l nn (by rintro ⟨_,_,h⟩;exact h) (zf6 hD) _ _ _ _ h1
theorem Fb{o:Oper}{a:Act}{w:zd}{K:Act->zd->Prop}(f:FuncId)(xs:Array Operand)(ats:Array zk)
  (ho:o.op=.call {callee:=.value (.func f),args:=xs,argTypes:=ats}) (args:Array aa) (Ck:(#[]++xs.map a.eval++#[]:Array aa)=args) (R:aa->zd->Prop) (pK:(callFunc f args).run P w=.ok (.enter f args) w)
  (hc:Calls P f args w λe w'=>∃v,e=.returned v/\R v w') (h:∀v w',R v w'->K (a.put o.dst v) w'):Oper.wp P o a w K Q:=by
 obtain⟨dst,op,type,pos,after,guard⟩:=o;simp only at ho;subst ho;unfold Oper.wp;rw[execOp_call_go,Ck];rw[pK,Oper.upon_enter];refine hc.mono ?_;rintro e w' ⟨v,rfl,hR⟩;exact h v w' hR
theorem uT{t j:Nat}{o:Oper}{rest:List (Nat×Oper)}{a:Act}{w:zd}(hg:o.guard=zb)(h:∀K:Act->zd->Prop,(∀a' w',(t∈rest.map Prod.fst->C w')->oq P ops C t Q rest a' w'->K a' w')->o.wp P a w K Q):oq P ops C t Q ((j,o)::rest) a w:=by
 unfold oq;rw[aD (by simp[Region.wanted,hg])];exact h _ (λ_ _ h1 h2=>⟨h1,h2⟩)
theorem HZ{t:Nat}:∀(l:List (Nat×Oper)) (a:Act) (w:zd),t∉l.map Prod.fst->(∀a w,¬Q .outgrown a w)->wpList P ops Q (l.map Prod.snd) a w->oq P ops C t Q l a w
 |[],_,_,_,_,h=>h
 |(j,o)::l,a,w,hk,hL,h=>by
  simp only[vm]at h hk;have xn:t∉l.map Prod.fst:=λe=>hk (by simp[e])
  unfold wpList at h;unfold oq
  by_cases hw:Region.wanted o (yielded ops a.tmps)=true
  ·rw[aD hw]at h ⊢;rcases h with h|h
   ·exact Oper.wp_mono (λa w h=>⟨λe=>absurd e xn,HZ l a w xn hL h⟩) h
   ·obtain⟨_,a',w',h'⟩:=h;exact absurd h' (hL a' w')
  ·rw[aq hw]at h ⊢;exact⟨λe=>absurd e xn,HZ l _ w xn hL h⟩
end
end
section
open Go.RowKit
structure Bz(w0:zd)(pl:Nat)(Q:Nat->Option Pt)(Ow:Nat->Nat->Prop)(Y:zd) where
 W:zd
 O:Nat->Nat->Prop
 h:da w0 pl Q Ow Y O W
theorem zk3(xs:Array aa)(w:zd):(callFunc 124 xs).run prog w=.ok (.enter 124 xs) w:=by kernel_rfl
theorem ziA(xs:Array aa)(w:zd):(callFunc 125 xs).run prog w=.ok (.enter 125 xs) w:=by kernel_rfl
structure mJ(w0:zd)(pl:Nat)(Q:Nat->Option Pt)(Ow:Nat->Nat->Prop)(w:zd)(ls:List fR)(u:aJ)(N ne n gt B6 H:Nat)(Fx:Nat->Prop)(WL W:zd)(mt me:Nat)(aI:Nat->Nat->Prop)(ge:Nat)(ET:Nat->Nat)(gx:Nat->Nat)(TT:Nat->Nat->Nat)(arr:Array aa):Prop where
 pt:da w0 pl Q Ow w aI W
 fx:∀k,Fx k->W.heap[k]?=WL.heap[k]?
 fl:∀k,Fx k->w.heap.size<=k/\k<W.heap.size/\k≠gt/\k≠B6/\k≠H/\k≠H+1
 fr:∀k,(Fx k\/k=gt\/k=B6\/k=H\/k=H+1)->∀b,¬aI k b
 c6:W.heap[B6]?=za (ze #[zc (za ⟨ge,0,zb⟩) ne ne] 193 (0,0))
 row:W.heap[gt]?=za (ze arr 193 (0,0))
 len:arr.size=n
 at':∀j,n-mt<=j->j<n->arr[j]?=za (zc (za ⟨gx j,0,zb⟩) ne ne)
 one:∀j,j<n->∃x,arr[j]?=za x
 set:∀j,n-mt<=j->j<n->aH W ne (gx j) (TT j)/\w.heap.size<=gx j/\(∀b,¬aI (gx j) b)/\∀q,ax (TT j) q=true↔ig u N (ls.drop (j+1)) q
 en:aH W ne ge ET/\w.heap.size<=ge/\(∀b,¬aI ge b)/\∀q,ax ET q=true↔ig u N (ls.drop (n-me)) q
 nc:(∀o,W.heap[H]?=za o->o.isCells=false)/\∀o,W.heap[H+1]?=za o->o.isCells=false
 hs:w.heap.size<=gt/\w.heap.size<=B6/\w.heap.size<=H/\w0.heap.size<=w.heap.size/\gt≠B6
section
variable {w0:zd} {pl:Nat} {Q:Nat->Option Pt} {Ow:Nat->Nat->Prop} {w:zd} {ls:List fR} {u:aJ} {N ne n gt B6 H:Nat} {Fx:Nat->Prop} {WL W:zd} {mt me:Nat} {aI:Nat->Nat->Prop} {ge:Nat} {ET:Nat->Nat} {gx:Nat->Nat} {TT:Nat->Nat->Nat} {arr:Array aa}
theorem mJ.G6(h:mJ w0 pl Q Ow w ls u N ne n gt B6 H Fx WL W mt me aI ge ET gx TT arr){k:Nat}{cs:Array aa}{t:zk}(hk:W.heap[k]?=za (ze cs t (0,0))):k≠H/\k≠H+1:=by
 refine⟨λe=>?_,λe=>?_⟩
 ·have:=h.nc.1 _ (e ▸ hk);cases this
 ·have:=h.nc.2 _ (e ▸ hk);cases this
theorem mJ.turn(h:mJ w0 pl Q Ow w ls u N ne n gt B6 H Fx WL W mt me aI ge ET gx TT arr){W':zd}(t:tT H W W'):mJ w0 pl Q Ow w ls u N ne n gt B6 H Fx WL W' mt me aI ge ET gx TT arr:=by
 obtain⟨s1,s2,s3,s4,s5⟩:=h.hs;have tc:aE (λk=>k=H\/k=H+1) W W':=⟨t.os,t.tape,t.output,t.size,λk h1 h2=>t.same k (λe=>h2 (.inl e)) (λe=>h2 (.inr e)) h1⟩;have cl:∀{k:Nat} {cs:Array aa} {ty:zk},W.heap[k]?=za (ze cs ty (0,0))->W'.heap[k]?=za (ze cs ty (0,0)):=λhk=>(t.same _ (h.G6 hk).1 (h.G6 hk).2 (ap.1 hk).1).trans hk
 have ps:∀{g:Nat} {T:Nat->Nat},aH W ne g T->aH W' ne g T:=λhp=>⟨cl hp.row,hp.lt⟩
 refine⟨h.pt.free tc (λ_ _ e=>cl e) (λk e=>?_),λk hk=>?_,λk hk=>?_,h.fr,cl h.c6,cl h.row,h.len,h.at',h.one,λj h1 h2=>?_,⟨ps h.en.1,h.en.2⟩,t.nc,h.hs⟩
 ·rcases e with e|e
  ·exact⟨by omega,h.fr k (.inr (.inr (.inr (.inl e)))),by omega⟩
  ·exact⟨by omega,h.fr k (.inr (.inr (.inr (.inr e)))),by omega⟩
 ·obtain⟨_,f1,_,_,f2,f3⟩:=h.fl k hk;exact(t.same k f2 f3 f1).trans (h.fx k hk)
 ·obtain⟨f0,f1,f2⟩:=h.fl k hk;exact⟨f0,bA f1 t.size,f2⟩
 ·obtain⟨g1,g2⟩:=h.set j h1 h2;exact⟨ps g1,g2⟩
theorem mJ.below(h:mJ w0 pl Q Ow w ls u N ne n gt B6 H Fx WL W mt me aI ge ET gx TT arr){W':zd}(hb:zj W.heap.size W W')(hH:H+1<W.heap.size):mJ w0 pl Q Ow w ls u N ne n gt B6 H Fx WL W' mt me aI ge ET gx TT arr:=by
 have cl:∀{k:Nat} {cs:Array aa} {ty:zk},W.heap[k]?=za (ze cs ty (0,0))->W'.heap[k]?=za (ze cs ty (0,0)):=λhk=>(hb.block _ (ap.1 hk).1).trans hk
 have ps:∀{g:Nat} {T:Nat->Nat},aH W ne g T->aH W' ne g T:=λhp=>⟨cl hp.row,hp.lt⟩
 refine⟨h.pt.below hb,λk hk=>(hb.block k (h.fl k hk).2.1).trans (h.fx k hk),λk hk=>?_,h.fr,cl h.c6,cl h.row,h.len,h.at',h.one,λj h1 h2=>⟨ps (h.set j h1 h2).1,(h.set j h1 h2).2⟩,⟨ps h.en.1,h.en.2⟩,⟨λo ho=>h.nc.1 o (by rw[<-hb.block H (by omega)];exact ho),λo ho=>h.nc.2 o (by rw[<-hb.block (H+1) hH];exact ho)⟩,h.hs⟩;obtain⟨f0,f1,f2⟩:=h.fl k hk;exact⟨f0,bA f1 hb.size,f2⟩
theorem mJ.store{m x:Nat}(h:mJ w0 pl Q Ow w ls u N ne n gt B6 H Fx WL W m m aI ge ET gx TT arr)(hx:x+m+1=n):mJ w0 pl Q Ow w ls u N ne n gt B6 H Fx WL (W.setCell ⟨gt,x,zb⟩ (zc (za ⟨ge,0,zb⟩) ne ne)) (m+1) m aI ge ET (λj=>if j=x then ge else gx j) (λj=>if j=x then ET else TT j) (arr.setIfInBounds x (zc (za ⟨ge,0,zb⟩) ne ne)):=by
 obtain⟨s1,s2,s3,s4,s5⟩:=h.hs;have hr:=dF W gt x _ _ (zc (za ⟨ge,0,zb⟩) ne ne) h.row;have ot:∀k,k≠gt->(W.setCell ⟨gt,x,zb⟩ (zc (za ⟨ge,0,zb⟩) ne ne)).heap[k]?=W.heap[k]?:=λk e=>cu _ _ _ _ (show k≠gt from e)
 have Tn:∀{k:Nat} {T:Nat->Nat},aH W ne k T->k≠gt:=λhp e=>by have:=hp.row;rw[e,h.row]at this;exact absurd (bP this) (by decide)
 have tc:aE (λk=>k=gt) W (W.setCell ⟨gt,x,zb⟩ (zc (za ⟨ge,0,zb⟩) ne ne)):=⟨rfl,rfl,rfl,by simp,λk _ h2=>ot k h2⟩;have J9:=h.G6 h.row;refine⟨h.pt.free tc (λmg f e=>(ot mg (λe2=>by rw[e2,h.row]at e;exact absurd (bP e) (by decide))).trans e) (λk e=>?_),λk hk=>(ot k (h.fl k hk).2.2.1).trans (h.fx k hk),λk hk=>?_,h.fr,(ot B6 (λe=>s5 e.symm)).trans h.c6,hr,by simp[h.len],λj h1 h2=>?_,λj hj=>?_,λj h1 h2=>?_,⟨⟨(ot ge (Tn h.en.1)).trans h.en.1.row,h.en.1.lt⟩,h.en.2⟩,⟨λo ho=>h.nc.1 o (by rw[<-ot H J9.1.symm];exact ho),λo ho=>h.nc.2 o (by rw[<-ot (H+1) J9.2.symm];exact ho)⟩,h.hs⟩
 ·have e:k=gt:=e;exact⟨by omega,h.fr k (.inr (.inl e)),by omega⟩
 ·obtain⟨f0,f1,f2⟩:=h.fl k hk;exact⟨f0,by simpa using f1,f2⟩
 ·have hl:=h.len
  by_cases e:j=x
  ·subst e;simp[show j<arr.size by omega]
  ·simp only[aq e];rw[Array.getElem?_setIfInBounds_ne (Ne.symm e)];exact h.at' j (by omega) h2
 ·by_cases e:j=x
  ·subst e;exact⟨_,by simp[show j<arr.size by have:=h.len;omega];rfl⟩
  ·rw[Array.getElem?_setIfInBounds_ne (Ne.symm e)];exact h.one j hj
 ·by_cases e:j=x
  ·subst e;simp only[if_true];refine⟨⟨(ot ge (Tn h.en.1)).trans h.en.1.row,h.en.1.lt⟩,h.en.2.1,h.en.2.2.1,λq=>?_⟩;rw[h.en.2.2.2 q,show n-m=j+1 from by omega]
  ·simp only[aq e];obtain⟨g1,g2⟩:=h.set j (by omega) h2;exact⟨⟨(ot _ (Tn g1)).trans g1.row,g1.lt⟩,g2⟩
theorem mJ.next{m x gs:Nat}(h:mJ w0 pl Q Ow w ls u N ne n gt B6 H Fx WL W (m+1) m aI ge ET gx TT arr)(hx:x+m+1=n){jG:Nat->Nat->Prop}{W3 W5:zd}(EE:da w0 pl Q aI W jG W3)(tc:aE (λk=>k=B6\/k=gs) W3 W5)(km:bR W3 W5)(oW:W.heap.size<=gs)(Cs:∀b,¬jG gs b)(hH:H+1<W.heap.size)(N1:W5.heap[B6]?=za (ze #[zc (za ⟨gs,0,zb⟩) ne ne] 193 (0,0))){S:Nat->Nat}(hp:aH W5 ne gs S)(hb:∀q,ax S q=true↔ig u N (ls.drop x) q):mJ w0 pl Q Ow w ls u N ne n gt B6 H Fx WL W5 (m+1) (m+1) jG gs S gx TT arr:=by
 obtain⟨s1,s2,s3,s4,s5⟩:=h.hs;have tx:=h.pt.size;have Ny:B6<W.heap.size:=(ap.1 h.c6).1;have zAy:=EE.size;have fr:∀k,w.heap.size<=k->k<W.heap.size->(∀b,¬aI k b)->k≠B6->W5.heap[k]?=W.heap[k]?/\∀b,¬jG k b:=λk h1 h2 h3 h4=>by
  obtain⟨e1,e2⟩:=EE.eG k (by omega) h2 h3;exact⟨(tc.same k (by omega) (by omega)).trans e1,e2⟩
 have Nw:=h.G6 h.c6;have fH:=fr H s3 (by omega) (h.fr H (.inr (.inr (.inr (.inl rfl))))) Nw.1.symm;have Zx:=fr (H+1) (by omega) hH (h.fr (H+1) (.inr (.inr (.inr (.inr rfl))))) Nw.2.symm;have Zy:=fr gt s1 (ap.1 h.row).1 (h.fr gt (.inr (.inl rfl))) s5;have Kr:∀{k:Nat} {T:Nat->Nat},aH W ne k T->k≠B6:=λhp e=>by have:=hp.row;rw[e,h.c6]at this;exact absurd (bP this) (by decide)
 have Zw:=(EE.eG B6 (by omega) Ny (h.fr B6 (.inr (.inr (.inl rfl))))).2;refine⟨(h.pt.trans EE).free tc km (λk e=>?_),λk hk=>?_,λk hk=>?_,λk hk=>?_,N1,Zy.1.trans h.row,h.len,h.at',h.one,λj h1 h2=>?_,⟨hp,by omega,Cs,λq=>?_⟩,⟨λo ho=>h.nc.1 o (by rw[<-fH.1];exact ho),λo ho=>h.nc.2 o (by rw[<-Zx.1];exact ho)⟩,h.hs⟩
 ·rcases e with e|e
  ·exact⟨by omega,e ▸ Zw,by omega⟩
  ·exact⟨by omega,e ▸ Cs,by omega⟩
 ·obtain⟨f0,f1,f2,f3,f4⟩:=h.fl k hk;exact(fr k f0 f1 (h.fr k (.inl hk)) f3).1.trans (h.fx k hk)
 ·obtain⟨f0,f1,f2⟩:=h.fl k hk;exact⟨f0,by have:=tc.size;omega,f2⟩
 ·rcases hk with hk|hk|hk|hk|hk
  ·obtain⟨f0,f1,f2,f3,f4⟩:=h.fl k hk;exact(fr k f0 f1 (h.fr k (.inl hk)) f3).2
  ·rw[hk];exact Zy.2
  ·rw[hk];exact Zw
  ·rw[hk];exact fH.2
  ·rw[hk];exact Zx.2
 ·obtain⟨g1,g2,g3,g4⟩:=h.set j h1 h2;obtain⟨e1,e2⟩:=fr (gx j) g2 g1.cj g3 (Kr g1);exact⟨⟨e1.trans g1.row,g1.lt⟩,g2,e2,g4⟩
 ·rw[hb q,show n-(m+1)=x from by omega]
end
end
variable {w0:zd}{pl i:Nat}{Q:Nat -> Option Pt}{Ow:Nat -> Nat -> Prop}{xs:List (Nat×fR)}
open Go.RowKit
attribute [local go_sem] Oper.semAt_some
theorem zph{lo go cap:Nat}(hr:w0.ownsRow lo 299 2 (zc (za ⟨go,0,zb⟩) xs.length cap) xs.length (gH xs)){w:zd}(h:cE w0 pl Q Ow w){i a:Nat}{q:Pt}{o:Bool}(hx:xs[i]?=za (a,q,o)):w.cell? ⟨go,i*2,zb⟩=za (zf (za ⟨a,0,zb⟩))/\w.cell? ⟨go,i*2+1,zb⟩=za (.bool o):=by
 have hi:=(vp.1 hx).1;rcases hr.2 with ⟨h0,_⟩|⟨g',cap',aA,hv,h1,h2,h3,h4,h5,h6⟩
 ·cases h0
 ·cases hv
  have hw:=h.eV h2 (by decide) (by decide);obtain⟨l1,l2⟩:=WM xs i a q o hx;have hg:∀j,j<xs.length*2->aA[j]?=(gH xs)[j]?:=λj hj=>by
   rw[<-h6,Bw,aD hj];simp
  rw[aO _ _ _ _ _ _ hw,aO _ _ _ _ _ _ hw,hg _ (by omega),hg _ (by omega)];exact⟨l1,l2⟩
def vZ(xs:List (Nat×fR))(i:Nat):Nat:=(xs.getD i (0,.set λ_=>false,false)).1
def xF(xs:List (Nat×fR))(i:Nat):Bool:=(xs.getD i (0,.set λ_=>false,false)).2.2
def tB(xs:List (Nat×fR))(i:Nat):Pt:=(xs.getD i (0,.set λ_=>false,false)).2.1
theorem Dg(hi:i<xs.length):xs[i]?=za (vZ xs i,tB xs i,xF xs i):=by
 unfold vZ tB xF;rw[cL,eY hi]
 rfl
theorem zpi(hi:i<xs.length):(xs.map Prod.snd).drop i=(tB xs i,xF xs i)::(xs.map Prod.snd).drop (i+1):=by
 have h1:=Dg hi;have hl:i<(xs.map Prod.snd).length:=by simpa using hi
 rw[oC hl]
 congr 1
 have:(xs.map Prod.snd)[i]?=za (tB xs i,xF xs i):=by rw[Bv,h1];rfl
 rw[eY hl]at this;exact Option.some.inj this
def YU(w0:zd)(pl:Nat)(Q:Nat->Option Pt)(Ow:Nat->Nat->Prop)(w:zd)(ls:List fR)(u:aJ)(N ne n:Nat)(e:Ending)(w':zd):Prop:=
 ∃(aI:Nat->Nat->Prop) (gt:Nat) (gx:Nat->Nat) (TT:Nat->Nat->Nat),e=.returned (zc (za ⟨gt,0,zb⟩) n n)/\da w0 pl Q Ow w aI w'/\w.heap.size<=gt/\(∀b,¬aI gt b)/\(∀j,j<n->w'.cell? ⟨gt,j,zb⟩=za (zc (za ⟨gx j,0,zb⟩) ne ne))/\∀j,j<n->aH w' ne (gx j) (TT j)/\w.heap.size<=gx j/\(∀b,¬aI (gx j) b)/\∀q,ax (TT j) q=true↔ig u N (ls.drop (j+1)) q
theorem zrZ(w:zd)(h:cE w0 pl Q Ow w)(lo go cap:Nat)(xs:List (Nat×fR))(hr:w0.ownsRow lo 299 2 (zc (za ⟨go,0,zb⟩) xs.length cap) xs.length (gH xs))(hQ:∀x,x∈xs->Q x.1=za x.2.1)(pN:xs.length<=100000)(t:ByteArray)(ht:t.size<=4096)(En:∀k,k<=xs.length->∃m,ig t.data.toList t.size ((xs.map Prod.snd).drop k) m):
  Calls prog 228 #[.agg #[zc (za ⟨go,0,zb⟩) xs.length cap],.string t] w λe w'=>YU w0 pl Q Ow w (xs.map Prod.snd) t.data.toList t.size (t.size/64+1) xs.length e w':=by
 obtain⟨i1,hj,qB,kW,n9⟩:=info_parts Tryz.K0;obtain⟨n,Hn⟩:∃n,zg (xs.length=n):=⟨_,rfl⟩;obtain⟨ne,Dy⟩:∃ne,zg (t.size/64+1=ne):=⟨_,rfl⟩;have Em:ne<=100:=by have:=Dy.out;omega
 have mU:t.size<64*ne:=by have:=Dy.out;omega
 have hgo:go<w0.heap.size:=(Fc hr).2.2.1;obtain⟨zxT,zvG⟩:=(Fc hr).2.2.2;have Yn:zg (∀W dQ,cE w0 pl Q dQ W->W.heap[go]?=za (ze zxT 299 (0,0))):=λW dQ hI=>hI.eV zvG (by decide) (by decide)
 clear zvG;have tx:=h.size;have zH:zg (∀W dQ,cE w0 pl Q dQ W->∀i,i<n->W.cell? ⟨go,i*2,zb⟩=za (zf (za ⟨vZ xs i,0,zb⟩))/\W.cell? ⟨go,i*2+1,zb⟩=za (.bool (xF xs i))):=λW dQ hI i hi=>zph hr hI (Dg (by have:=Hn.out;omega))
 have HQ:zg (∀i,i<n->Q (vZ xs i)=za (tB xs i)):=λi hi=>by
  have hx:=Dg (xs:=xs) (i:=i) (by have:=Hn.out;omega);exact hQ _ (Bq hx)
 have Qy:zg (∀i,i<n->(xs.map Prod.snd).drop i=(tB xs i,xF xs i)::(xs.map Prod.snd).drop (i+1)):=λi hi=>zpi (by have:=Hn.out;omega)
 have wS:zg ((xs.map Prod.snd).drop n=[]):=by show _=_;rw[<-Hn.out];simp
 rw[Hn.out]at En;have QH:=aC En;have Hi:=aC h;have vR:=λW=>Pu t.size W ht
 rw[Hn.out]at pN ⊢;rw[Dy.out]at vR ⊢;generalize xs.map Prod.snd=ls at *;generalize vZ xs=pa at *;generalize xF xs=po at *;generalize tB xs=pq at *;clear hr hQ En h Hn;refine(callsIn_wide (n:=5)).1 ?_;refine callsIn_of_wp_marks func228 rfl trivial ?_ rfl;refine wpIn_wide.2 ?_;simp only[ntmps228,yh,qg,oA,Nat.reduceAdd,Nat.reduceSub,Bl,Bm,Br,Bs,wJ,Bt];obtain⟨W1,cC⟩:∃W1,(w.alloc (ze #[zc (za ⟨go,0,zb⟩) n cap] 305)).alloc (ze #[.string t] 9)=W1:=⟨_,rfl⟩;have ak:zj w.heap.size w W1:=by rw[<-cC];exact(au).alloc (by simp) _
 have x0:W1.heap[w.heap.size]?=za (ze #[zc (za ⟨go,0,zb⟩) n cap] 305 (0,0)):=by rw[<-cC];exact cQ (aL _ _)
 have x1:W1.heap[w.heap.size+1]?=za (ze #[.string t] 9 (0,0)):=by
  rw[<-cC];have:=aL (w.alloc (ze #[zc (za ⟨go,0,zb⟩) n cap] 305)) (ze #[.string t] 9)
  simpa using this
 have c0:W1.cell? ⟨w.heap.size,0,zb⟩=za (zc (za ⟨go,0,zb⟩) n cap):=(aO _ _ _ _ _ _ x0:_=_);have ju:w.heap.size+1<W1.heap.size:=(ap.1 x1).1
 go_wp2_with (at_make;refine wpList_make_full _ rfl _ _ 227 rfl w.heap.size 193 i1 _ 1 underlying227 hj qB kW _ _ _ _ n rfl rfl rfl rfl (by rw[n9];omega) (by unfold maxLen;omega) ak.size ?_;intro W2 az eF;have af:zj W1.heap.size W1 W2:=⟨eF.os,eF.tape,eF.output,eF.size,λk hk=>eF.block k hk (by simp)⟩;obtain⟨W3,ff⟩:∃W3,W2.alloc (ze #[zc (za ⟨W1.heap.size,0,zb⟩) n n] 227)=W3:=⟨_,rfl⟩;have ay:zj W2.heap.size W2 W3:=(by rw[<-ff];exact au);have x5:W3.heap[W2.heap.size]?=za (ze #[zc (za ⟨W1.heap.size,0,zb⟩) n n] 227 (0,0)):=(by rw[<-ff];exact aL _ _);have yO:zj W1.heap.size W1 W3:=af.trans (ay.mono af.size);have d1:W3.cell? ⟨w.heap.size+1,0,zb⟩=za (.string t):=(yO.cell (p:=⟨w.heap.size+1,0,zb⟩) ju).trans (aO _ _ _ _ _ _ x1))
 refine(vR W3).mono ?_;rintro e W4 ⟨U,rfl,hU,gT,aG⟩;obtain⟨W5,td⟩:∃W5,W4.alloc (ze #[zc (za ⟨W3.heap.size,0,zb⟩) ne ne] 193)=W5:=⟨_,rfl⟩;have bE:zj W4.heap.size W4 W5:=by rw[<-td];exact au
 have x6:W5.heap[W4.heap.size]?=za (ze #[zc (za ⟨W3.heap.size,0,zb⟩) ne ne] 193 (0,0)):=by rw[<-td];exact aL _ _
 have NQ:zj W3.heap.size W3 W5:=aG.trans (bE.mono aG.size);have Cn:zj W1.heap.size W1 W5:=yO.trans (NQ.mono yO.size);have lD:w.heap.size<W1.heap.size:=by omega
 have e0:W5.cell? ⟨w.heap.size,0,zb⟩=za (zc (za ⟨go,0,zb⟩) n cap):=(Cn.cell (p:=⟨w.heap.size,0,zb⟩) lD).trans c0;have bu:=zoh go n cap W5;have mh:W2.heap.size<W3.heap.size:=(ap.1 x5).1;have CH:W4.heap.size<W5.heap.size:=(ap.1 x6).1;have zwj:=af.size;have zwl:=aG.size;have hUl:W3.heap.size<W4.heap.size:=hU.cj;obtain⟨arr,mf,hlen,rO⟩:∃arr:Array aa,W2.heap[W1.heap.size]?=za (ze arr 193 (0,0))/\arr.size=n/\∀j,j<n->∃x,arr[j]?=za x:=by
  rcases az.2 with ⟨e,_⟩|⟨g,cp,aA,e,q1,q2,q3,q4,q5,q6⟩
  ·cases e
  ·cases e
   exact⟨aA,q2,by omega,λj hj=>⟨_,wG (by omega)⟩⟩
 have cZ:W1.heap.size<W2.heap.size:=(ap.1 mf).1;obtain⟨WL,NJ⟩:∃WL,W5.alloc (ze #[zc (za ⟨go,0,zb⟩) n cap] 300)=WL:=⟨_,rfl⟩;have dz:zj W5.heap.size W5 WL:=by rw[<-NJ];exact au
 have xb:WL.heap[W5.heap.size]?=za (ze #[zc (za ⟨go,0,zb⟩) n cap] 300 (0,0)):=by rw[<-NJ];exact aL _ _
 have KD:W5.heap.size<WL.heap.size:=(ap.1 xb).1;have Sj:zj w.heap.size w WL:=ak.trans ((Cn.trans (dz.mono Cn.size)).mono ak.size);have hiL:=Hi.out.below Sj;have nG:zg (mJ w0 pl Q Ow w ls t.data.toList t.size ne n W1.heap.size W4.heap.size WL.heap.size (λk=>k=w.heap.size\/k=w.heap.size+1\/k=W2.heap.size\/k=W5.heap.size) WL WL 0 0 Ow W3.heap.size U (λ_=>0) (λ_=>cK) arr):=by
  have rM:∀k,w.heap.size<=k->∀b,¬Ow k b:=λk hk b ho=>by have:=(Hi.out.ow k b ho).2;omega
  refine⟨da.cH Hi.out Sj,λ_ _=>rfl,λk hk=>by rcases hk with rfl|rfl|rfl|rfl<;>omega,λk hk=>?_,(dz.block _ CH).trans x6,?_,hlen,λj h1 h2=>by omega,rO,λj h1 h2=>by omega,⟨(hU.below bE).below dz,by omega,rM _ (by omega),λq=>?_⟩,⟨λo ho=>?_,λo ho=>?_⟩,by omega⟩
  ·rcases hk with hk|hk|hk|hk|hk
   ·rcases hk with rfl|rfl|rfl|rfl<;>exact rM _ (by omega)
   all_goals (subst hk;exact rM _ (by omega))
  ·exact(dz.block _ (by omega)).trans ((NQ.block _ (by omega)).trans ((ay.block _ (by omega)).trans mf))
  ·rw[gT q,Nat.sub_zero,wS.out];exact Iff.rfl
  ·rw[Ms (ai _)]at ho;cases ho
  ·rw[Ms (by omega)]at ho;cases ho
 have hcL:=zH.out WL Ow hiL;have x0L:WL.heap[w.heap.size]?=za (ze #[zc (za ⟨go,0,zb⟩) n cap] 305 (0,0)):=(dz.block _ (by omega)).trans ((Cn.block _ lD).trans x0);have x1L:WL.heap[w.heap.size+1]?=za (ze #[.string t] 9 (0,0)):=(dz.block _ (by omega)).trans ((Cn.block _ ju).trans x1);have x5L:WL.heap[W2.heap.size]?=za (ze #[zc (za ⟨W1.heap.size,0,zb⟩) n n] 227 (0,0)):=(dz.block _ (by omega)).trans ((NQ.block _ mh).trans x5);have sK:=aC x0L;have zK:=aC x1L;have F8:=aC x5L;clear vR hU gT af ay yO NQ Cn bE x0 x1 x5 x6 d1 c0 az eF mf hlen rO hiL x0L x1L x5L Sj
 go_wp2_with fail
 refine bu.mono ?_;rintro e W6 ⟨rfl,Ch⟩;rw[NJ]at Ch;subst W6;clear bu NJ e0 td ff cC dz aG ak;go_wp2;refine(wpIn_wide (n:=5)).1 ?_
 rename_i K Ce
 have zz9:go<WL.heap.size:=by omega
 have lq:zg (∀(W:zd) (me:Nat) (aI:Nat->Nat->Prop) (ge:Nat) (ET:Nat->Nat) (gx:Nat->Nat) (TT:Nat->Nat->Nat) (arr:Array aa),mJ w0 pl Q Ow w ls t.data.toList t.size ne n W1.heap.size W4.heap.size WL.heap.size (λk=>k=w.heap.size\/k=w.heap.size+1\/k=W2.heap.size\/k=W5.heap.size) WL W n me aI ge ET gx TT arr->W.heap[WL.heap.size]?=za (.deferred (za []))->YU w0 pl Q Ow w ls t.data.toList t.size ne n (.returned (zc (za ⟨W1.heap.size,0,zb⟩) n n)) (W.putObj WL.heap.size (.deferred zb))):=by
  intro W me aI ge ET gx TT arr hS hD;have hlt:=(ap.1 hD).1;have h2:=hS.turn (W':=W.putObj WL.heap.size (.deferred zb)) ⟨rfl,rfl,rfl,by simp,λk q1 _ _=>World.putObj_heap_other q1,λo ho=>by rw[World.putObj_heap_same hlt]at ho;cases ho;rfl,λo ho=>hS.nc.2 o (by rw[World.putObj_heap_other (by omega)]at ho;exact ho)⟩;refine⟨aI,_,gx,TT,rfl,h2.pt,by omega,h2.fr _ (.inr (.inl rfl)),λj hj=>?_,λj hj=>h2.set j (by omega) hj⟩;rw[aO _ _ _ _ _ _ h2.row];exact h2.at' j (by omega) hj
 refine zlX (by omega) (gf:=232) (fb:=#[]) (lb:=#[zf (za ⟨W5.heap.size,0,zb⟩)]) rfl (enters_of func232 (by kernel_rfl) rfl)
  (T:=[W5.heap.size,go]) (by intro k hk;simp at hk;omega)
  (zmY 4 n go cap W5.heap.size pa po (by omega) pN WL xb hcL) (λ_=>rfl)
  (λpre W=>∃(aI:Nat->Nat->Prop) (ge:Nat) (ET:Nat->Nat) (gx:Nat->Nat) (TT:Nat->Nat->Nat) (arr:Array aa),mJ w0 pl Q Ow w ls t.data.toList t.size ne n W1.heap.size W4.heap.size WL.heap.size (λk=>k=w.heap.size\/k=w.heap.size+1\/k=W2.heap.size\/k=W5.heap.size) WL W pre.length pre.length aI ge ET gx TT arr)
  (λc _ W=>c=.exit 0/\∃me:Nat,∃(aI:Nat->Nat->Prop) (ge:Nat) (ET:Nat->Nat) (gx:Nat->Nat) (TT:Nat->Nat->Nat) (arr:Array aa),mJ w0 pl Q Ow w ls t.data.toList t.size ne n W1.heap.size W4.heap.size WL.heap.size (λk=>k=w.heap.size\/k=w.heap.size+1\/k=W2.heap.size\/k=W5.heap.size) WL W n me aI ge ET gx TT arr)
  (λs A B hs ht=>by
   obtain⟨aI,ge,ET,gx,TT,arr,h⟩:=hs;exact⟨aI,ge,ET,gx,TT,arr,h.turn ht⟩)
  (λc s A B hs ht=>by
   obtain⟨h1,me,aI,ge,ET,gx,TT,arr,h⟩:=hs;exact⟨h1,me,aI,ge,ET,gx,TT,arr,h.turn ht⟩)
  ⟨_,_,_,_,_,_,nG.out⟩
  (λx W=>W.alloc (ze #[zf (za ⟨pa x.1,0,zb⟩),.bool (po x.1)] 299)) (λx W=>au)
  (λx W=>{tmps:=#[.agg #[zc (za ⟨go,0,zb⟩) n cap],.string t,zf (za ⟨w.heap.size,0,zb⟩),zf (za ⟨w.heap.size+1,0,zb⟩),zc zb 0 0,zf (za ⟨W2.heap.size,0,zb⟩),zf (za ⟨W4.heap.size,0,zb⟩),.int .i64 (x.1:Int),zf (za ⟨W.heap.size,0,zb⟩),zf (za ⟨w.heap.size,0,zb⟩),zc (za ⟨go,0,zb⟩) n cap,.int .i64 n,zc (za ⟨W1.heap.size,0,zb⟩) n n,.string t,.int .i64 (t.size:Int),zc (za ⟨W3.heap.size,0,zb⟩) ne ne,zf (za ⟨w.heap.size,0,zb⟩),zc (za ⟨go,0,zb⟩) n cap,.func (.func 232) #[] #[zf (za ⟨W5.heap.size,0,zb⟩)],.int .i64 (x.1:Int),.agg #[zf (za ⟨pa x.1,0,zb⟩),.bool (po x.1)],undef,undef,undef,undef,undef,undef,undef,undef,undef,undef,undef,undef,undef,undef,undef,undef,undef,undef,undef,undef,undef,undef],defers:=[]})
  ?assign ?body ?done ?stop
 case assign=>
  intro l x W K hK;unfold Nq
  gi_wp2
  exact hK
 case stop=>
  rintro D c pre W rfl _ ⟨rfl,me,aI,ge,ET,gx,TT,arr,hS⟩ hD;have c5:W.cell? ⟨W2.heap.size,0,zb⟩=za (zc (za ⟨W1.heap.size,0,zb⟩) n n):=(aO _ _ _ _ _ _ ((hS.fx W2.heap.size (.inr (.inr (.inl rfl)))).trans F8.out):_=_);have HF:=aC (lq.out W me aI ge ET gx TT arr hS hD);have HD:=aC hD;clear hS hD
  gi_wp2
  try go_wp2
  refine⟨by simp,.inl ⟨_,_,rfl,run_takeDeferred HD.out,?_⟩⟩;exact⟨zc (za ⟨W1.heap.size,0,zb⟩) n n,by simp[results,results228,go_sem],HF.out⟩
 case done=>
  rintro D ys W rfl jR ⟨aI,ge,ET,gx,TT,arr,hS⟩ hD;rw[jR]at hS;have c5:W.cell? ⟨W2.heap.size,0,zb⟩=za (zc (za ⟨W1.heap.size,0,zb⟩) n n):=(aO _ _ _ _ _ _ ((hS.fx W2.heap.size (.inr (.inr (.inl rfl)))).trans F8.out):_=_);have HF:=aC (lq.out W n aI ge ET gx TT arr hS hD);have HD:=aC hD;clear hS hD;refine Ce _ _ ?_;dsimp only;go_wp2;refine⟨by simp,.inl ⟨_,_,rfl,run_takeDeferred HD.out,?_⟩⟩;exact⟨zc (za ⟨W1.heap.size,0,zb⟩) n n,by simp[results,results228,go_sem],HF.out⟩
 case body=>
  clear Ce lq;rintro l pre ⟨x,hx⟩ W0 W hlen ⟨aI,ge,ET,gx,TT,arr,Cf⟩ tL Kt;have jL:zj W0.heap.size W0 (W0.alloc (ze #[zf (za ⟨pa x,0,zb⟩),.bool (po x)] 299)):=au;have hS:=aC ((Cf.below jL hlen).turn tL);have qx:W.heap[W0.heap.size]?=za (ze #[zf (za ⟨pa x,0,zb⟩),.bool (po x)] 299 (0,0)):=(tL.same _ (by omega) (by omega) (by simp)).trans (aL _ _);have Kn:∀b,¬aI W0.heap.size b:=λb ho=>by have:=(Cf.pt.inv.ow _ b ho).2;omega
  have Sc:W0.heap.size<W.heap.size:=(ap.1 qx).1;have zAz:=Cf.pt.size;obtain⟨m,Hm⟩:∃m,zg (pre.length=m):=⟨_,rfl⟩;have Tq:x+m+1=n:=by have:=Hm.out;have:x+pre.length+1=n:=Kt;omega
  have rf:=aC Tq;rw[Hm.out]at hS;have c5:W.cell? ⟨W2.heap.size,0,zb⟩=za (zc (za ⟨W1.heap.size,0,zb⟩) n n):=(aO _ _ _ _ _ _ ((hS.out.fx W2.heap.size (.inr (.inr (.inl rfl)))).trans F8.out):_=_);have c6:W.cell? ⟨W4.heap.size,0,zb⟩=za (zc (za ⟨ge,0,zb⟩) ne ne):=(aO _ _ _ _ _ _ hS.out.c6:_=_);obtain⟨y,hy⟩:=hS.out.one x hx;have cx:W.cell? ⟨W1.heap.size,x,zb⟩=za y:=(aO _ _ _ _ _ _ hS.out.row).trans hy;have fx:=cF _ _ x _ _ hS.out.row;have eO:=aC (hS.out.store Tq);have J9:=hS.out.G6 hS.out.row;have fC:W0.heap.size≠W1.heap.size:=λe=>by have:=hS.out.row;rw[<-e,qx]at this;exact absurd (bP this) (by decide)
  have fE:(0:Int)<=(x:Int):=by omega
  have mj:(x:Int)<(n:Int):=by omega
  obtain⟨Y,hY⟩:∃Y,W.setCell ⟨W1.heap.size,x,zb⟩ (zc (za ⟨ge,0,zb⟩) ne ne)=Y:=⟨_,rfl⟩;rw[hY]at eO;have NL:∀k,k≠W1.heap.size->Y.heap[k]?=W.heap[k]?:=λk e=>by rw[<-hY];exact cu _ _ _ _ (show k≠W1.heap.size from e)
  have QD:zg (Fv WL.heap.size W Y):=⟨NL _ J9.1.symm,NL _ J9.2.symm⟩;have hYs:Y.heap.size=W.heap.size:=by rw[<-hY];simp
  have HT:zg (∀k,k∈[W5.heap.size,go]->Y.heap[k]?=W.heap[k]?):=λk hk=>NL k (by simp at hk;omega)
  have Od:=(NL _ fC).trans qx;clear Cf tL jL qx hy Kt Tq xb hcL nG;dsimp only
  by_cases KT:x=0
  ·have hd:((x:Int)==0)=true:=by simp[KT]
   have Hxz:=aC KT;have HF:zg (∃me:Nat,∃(aI:Nat->Nat->Prop) (ge:Nat) (ET:Nat->Nat) (gx:Nat->Nat) (TT:Nat->Nat->Nat) (arr:Array aa),mJ w0 pl Q Ow w ls t.data.toList t.size ne n W1.heap.size W4.heap.size WL.heap.size (λk=>k=w.heap.size\/k=w.heap.size+1\/k=W2.heap.size\/k=W5.heap.size) WL Y n me aI ge ET gx TT arr):=⟨m,_,_,_,_,_,_,by have h:=eO.out;rw[show m+1=n from by have:=rf.out;have:=Hxz.out;omega]at h;exact h⟩;clear KT hS eO
   gi_wp2
   exact⟨QD.out,rfl,HF.out⟩
  ·have hd:((x:Int)==0)=false:=by simp[KT]
   clear KT hS
   gi_wp2
   clear hY c5 c6 cx fx hd;have eG:∀{W':zd} {O':Nat->Nat->Prop} (k:Nat),da w0 pl Q aI Y O' W'->w.heap.size<=k->k<Y.heap.size->(∀b,¬aI k b)->W'.heap[k]?=Y.heap[k]?:=λk hT h1 h2 h3=>(hT.eG k (by omega) h2 h3).1
   have Ny:W4.heap.size<Y.heap.size:=(ap.1 eO.out.c6).1;have ZE:w.heap.size+1<Y.heap.size:=(eO.out.fl _ (.inr (.inl rfl))).2.1;have zvY:W0.heap.size<Y.heap.size:=(ap.1 Od).1;have vx:zg (∀s:Bz w0 pl Q aI Y,s.W.heap[W0.heap.size]?=za (ze #[zf (za ⟨pa x,0,zb⟩),.bool (po x)] 299 (0,0))):=λs=>(eG _ s.h (by omega) zvY Kn).trans Od
   have H6:zg (∀s:Bz w0 pl Q aI Y,s.W.heap[W4.heap.size]?=za (ze #[zc (za ⟨ge,0,zb⟩) ne ne] 193 (0,0))):=λs=>(eG _ s.h (by omega) Ny (eO.out.fr _ (.inr (.inr (.inl rfl))))).trans eO.out.c6
   have H1:zg (∀s:Bz w0 pl Q aI Y,s.W.heap[w.heap.size+1]?=za (ze #[.string t] 9 (0,0))):=λs=>(eG _ s.h (by omega) ZE (eO.out.fr _ (.inl (.inr (.inl rfl))))).trans ((eO.out.fx _ (.inr (.inl rfl))).trans zK.out)
   have xl:∀s:Bz w0 pl Q aI Y,s.W.cell? ⟨W0.heap.size,0,zb⟩=za (zf (za ⟨pa x,0,zb⟩)):=λs=>(jA (vx.out s)).1
   have x6:∀s:Bz w0 pl Q aI Y,s.W.cell? ⟨W4.heap.size,0,zb⟩=za (zc (za ⟨ge,0,zb⟩) ne ne):=λs=>(aO _ _ _ _ _ _ (H6.out s):_=_)
   have x1:∀s:Bz w0 pl Q aI Y,s.W.cell? ⟨w.heap.size+1,0,zb⟩=za (.string t):=λs=>(aO _ _ _ _ _ _ (H1.out s):_=_)
   have TC:da w0 pl Q aI Y aI Y.drew:=da.cH eO.out.pt.inv ((Below.refl _ _).drew)
   haveI zyF:Nonempty (Bz w0 pl Q aI Y):=⟨⟨_,_,TC⟩⟩
   have fU:prog.follows .mixedOrders=true:=by kernel_rfl
   refine zhu [0,1,3,4] [2,5,6,7,8,9] 5 (λw'=>∃s:Bz w0 pl Q aI Y,w'=s.W) fU ⟨⟨_,_,TC⟩,rfl⟩ (by kernel_rfl) rfl ?_;intro os ck;simp only[lO,lP,lR,lQ]at ck;subst ck
   change wpQuiet _ _ _ _ [_,_,_,_] _
   repeat (go_big_quiet_step (fail))
   refine wpQuiet_nil ?_;rintro w' ⟨⟨Wb,Ob,iW⟩,hw'⟩ r' bZ;replace hw':w'=Wb:=hw';subst w';simp only[lO,lP,lR,lQ,Option.map_some]at bZ;subst bZ;clear xl x6 x1;refine uT rfl (λK5 iI=>?_);refine Fb 124 #[.tmp 28] #[198] (by rfl) #[zf (za ⟨pa x,0,zb⟩)] (by simp[Act.eval]) (λvs w1=>∃(s:Nat) (dQ:Nat->Nat->Prop) (X:Nat->Prop) (v:ey) (ra rb:cd) (O1 O2:Nat->Prop),vs=zf (za ⟨s,0,zb⟩)/\lS w0 pl Q (pa x) (pq x) dQ w1 s X v ra rb O1 O2/\ra.m<=8192/\rb.m<=8192/\pB pl (pa x) Ob Wb dQ w1 X) (zk3 _ _) ((Ik (pa x) (pq x) Wb iW.inv (HQ.out x hx)).mono (by
     rintro e w1 ⟨s,dQ,X,v,ra,rb,O1,O2,rfl,h1,h2,h3,h4⟩;exact⟨_,rfl,s,dQ,X,v,ra,rb,O1,O2,rfl,h1,h2,h3,h4⟩)) ?_
   rintro vs w1 ⟨s,dQ,X,v,ra,rb,O1,O2,rfl,mY,xq,pM,hch⟩;have s9:=iW.trans (mY.zh hch);refine iI _ _ (λ_=>⟨⟨_,_,s9⟩,rfl⟩) ?_;clear iI K5;have Cb:=eO.out.en;have zvH:ge<Y.heap.size:=Cb.1.cj;have ZL:aH w1 ne ge ET:=⟨(eG ge s9 Cb.2.1 zvH Cb.2.2.1).trans Cb.1.row,Cb.1.lt⟩;have Z9:¬X ge:=λe=>by
    have hb:=(iW.eG ge (by omega) zvH Cb.2.2.1).2;have:=iW.size;rcases hch.xs ge e with f|f
    ·exact hb _ f
    ·omega
   have hdn:n-m=x+1:=by have:=rf.out;omega
   obtain⟨q0,tn⟩:=QH.out (x+1) (by omega);have Gm:∀q,ax ET q=true↔ig t.data.toList t.size (ls.drop (x+1)) q:=λq=>by rw[Cb.2.2.2 q,hdn]
   have jM:=O0 mY (by omega) (by omega) t ht ne ge ne ET ZL Em Z9 ⟨q0,by have:=tn.le;omega,(Gm q0).2 tn⟩ (λq _ hb=>((Gm q).1 hb).le);refine uT rfl (λK5 iI=>?_);refine Fb 125 #[.tmp 29,.tmp 30,.tmp 31] #[197,9,193] (by rfl) #[zf (za ⟨s,0,zb⟩),.string t,zc (za ⟨ge,0,zb⟩) ne ne] (by simp[Act.eval,Act.put]) (λvs w'=>Xm w0 pl Q (pa x) (pq x) dQ w1 s X v ra rb O1 O2 ne t.data.toList (λq=>q<64*ne/\ax ET q=true) (.returned vs) w') (ziA _ _) (jM.mono (by
     rintro e w' hB;obtain⟨jG,X3,high,tt,gs,b',O,S,pv,ps,rfl,rest⟩:=hB;exact⟨_,rfl,jG,X3,high,tt,gs,b',O,S,pv,ps,rfl,rest⟩)) ?_
   rintro vs W3 ⟨jG,X3,high,tt,gs,b',O,S,pv,ps,hvs,h3,nQ,uH,AW,T,hh⟩;cases hvs;refine iI _ _ (λe=>by simp at e) ?_;clear iI K5;refine HZ _ _ _ (by simp) (λ_ _ h=>h) ?_;simp only[vm,List.map_nil];have lV:=iW.trans (h3.zh (nQ _ _ hch));have D6:W3.heap[W4.heap.size]?=_:=(eG _ lV (by omega) Ny (eO.out.fr _ (.inr (.inr (.inl rfl))))).trans eO.out.c6;have Ej:W3.heap[W0.heap.size]?=_:=(eG _ lV (by omega) zvY Kn).trans Od;have Ou:W3.heap[w.heap.size+1]?=_:=(eG _ lV (by omega) ZE (eO.out.fr _ (.inl (.inr (.inl rfl))))).trans ((eO.out.fx _ (.inr (.inl rfl))).trans zK.out);have zzP:Y.heap.size<=w1.heap.size:=s9.size;have zyp:=T.gw;have zyn:Y.heap.size<=gs:=by omega
   have Eg:gs<W3.heap.size:=T.sp.cj;have SP:gs≠W4.heap.size:=by omega
   have zyo:=(Pm mY uH AW zyp T.ng).1;have vV:t.data.toList.length=t.size:=by simp
   have kw:zg (∀q,ax S q=true↔∃e,ig t.data.toList t.size (ls.drop (x+1)) e/\Lg t.data.toList (pq x) q e):=λq=>by
    rw[O6 mY.inv (HQ.out x hx) T (λm hm=>by rw[vV];exact((Gm m).1 hm.2).le) q];exact exists_congr λe=>and_congr ⟨λz=>(Gm e).1 z.2,λz=>⟨by have:=z.le;omega,(Gm e).2 z⟩⟩ Iff.rfl
   have Dv:zg (∀q,ig t.data.toList t.size (ls.drop x) q↔ax S q=true\/(po x=true/\q=t.size)):=λq=>by
    rw[Qy.out x hx,kw.out q];exact Iff.rfl
   -- what the round leaves,with its next ends
   have Qz:zg (∀(W9:zd) (S9:Nat->Nat),aE (λk=>k=W4.heap.size\/k=gs) W3 W9->bR W3 W9->W9.heap[W4.heap.size]?=za (ze #[zc (za ⟨gs,0,zb⟩) ne ne] 193 (0,0))->aH W9 ne gs S9->(∀q,ax S9 q=true↔ig t.data.toList t.size (ls.drop x) q)->Fv WL.heap.size W W9/\(∀k∈[W5.heap.size,go],W9.heap[k]?=W.heap[k]?)/\∃(aI:Nat->Nat->Prop) (ge:Nat) (ET:Nat->Nat) (gx:Nat->Nat) (TT:Nat->Nat->Nat) (arr:Array aa),mJ w0 pl Q Ow w ls t.data.toList t.size ne n W1.heap.size W4.heap.size WL.heap.size (λk=>k=w.heap.size\/k=w.heap.size+1\/k=W2.heap.size\/k=W5.heap.size) WL W9 (pre++[(⟨x,hx⟩:oF n)]).length (pre++[(⟨x,hx⟩:oF n)]).length aI ge ET gx TT arr):=by
    intro W9 S9 OS km9 c9 p9 b9;have ZP:WL.heap.size+1<Y.heap.size:=by omega
    have pN:=eO.out.next rf.out lV OS km9 zyn zyo ZP c9 p9 b9;have Oc:(pre++[(⟨x,hx⟩:oF n)]).length=m+1:=by rw[pz,List.length_singleton,Hm.out]
    have zv4:=pN;rw[<-Oc]at zv4;have k9:∀k,w.heap.size<=k->k<Y.heap.size->(∀b,¬aI k b)->k≠W4.heap.size->W9.heap[k]?=Y.heap[k]?:=λk q1 q2 q3 q4=>(OS.same k (by have:=lV.size;omega) (by omega)).trans (eG k lV q1 q2 q3)
    have ZI:=eO.out.G6 eO.out.c6;refine⟨⟨(k9 _ (by omega) (by omega) (eO.out.fr _ (.inr (.inr (.inr (.inl rfl))))) ZI.1.symm).trans QD.out.1,(k9 _ (by omega) ZP (eO.out.fr _ (.inr (.inr (.inr (.inr rfl))))) ZI.2.symm).trans QD.out.2⟩,λk hk=>?_,⟨_,_,_,_,_,_,zv4⟩⟩
    ·simp at hk;rcases hk with rfl|hk
     ·obtain⟨f0,f1,f2,f3,f4⟩:=eO.out.fl _ (.inr (.inr (.inr rfl)));exact(k9 _ f0 f1 (eO.out.fr _ (.inl (.inr (.inr (.inr rfl))))) f3).trans (HT.out _ (by simp))
     ·rw[hk,Yn.out _ _ pN.pt.inv,<-HT.out go (by simp),Yn.out _ _ eO.out.pt.inv]
   have k1:=(qb T.box).2.1;have k6:W3.cell? ⟨W4.heap.size,0,zb⟩=za (zc (za ⟨ge,0,zb⟩) ne ne):=(aO _ _ _ _ _ _ D6:_=_);have f6:=cF _ _ 0 _ _ D6;have NS:=dF W3 W4.heap.size 0 _ _ (zc (za ⟨gs,0,zb⟩) ne ne) D6;obtain⟨Z,hZ⟩:∃Z,W3.setCell ⟨W4.heap.size,0,zb⟩ (zc (za ⟨gs,0,zb⟩) ne ne)=Z:=⟨_,rfl⟩;rw[hZ]at NS;have Gt:∀k,k≠W4.heap.size->Z.heap[k]?=W3.heap[k]?:=λk e=>by rw[<-hZ];exact cu _ _ _ _ (show k≠W4.heap.size from e)
   have tcZ:aE (λk=>k=W4.heap.size\/k=gs) W3 Z:=⟨by rw[<-hZ];rfl,by rw[<-hZ];rfl,by rw[<-hZ];rfl,by rw[<-hZ];simp,λk _ e=>Gt k (λe2=>e (.inl e2))⟩;have kmZ:bR W3 Z:=λmg f e=>(Gt mg (λe2=>by rw[e2,D6]at e;exact absurd (bP e) (by decide))).trans e
   have pZ:aH Z ne gs S:=⟨(Gt gs SP).trans T.sp.row,T.sp.lt⟩;have z1:=(jA ((Gt _ (λe=>by rw[e,D6]at Ej;exact absurd (bP Ej) (by decide))).trans Ej)).2;have zt:Z.cell? ⟨w.heap.size+1,0,zb⟩=za (.string t):=(aO _ _ _ _ _ _ ((Gt _ (λe=>by rw[e,D6]at Ou;exact absurd (bP Ou) (by decide))).trans Ou):_=_);have z6:Z.cell? ⟨W4.heap.size,0,zb⟩=za (zc (za ⟨gs,0,zb⟩) ne ne):=(aO _ _ _ _ _ _ NS:_=_);have Qv:=aC NS;have YJ:=aC tcZ;have Yt:=aC kmZ;have Ji:=aC pZ;clear jM mY hch s9 ZL Z9 Cb Gm T h3 nQ uH AW hh lV D6 Ej Ou Gt tcZ kmZ pZ NS eG vx H6 H1 TC zyF iW eO kw Kn Od;go_wp2;rw[wy];clear hZ k1 k6 f6;obtain⟨ob,Tr⟩:∃ob,zg (po x=ob):=⟨_,rfl⟩;rw[Tr.out]at z1;cases ob with
   |false=>
    have HF:=aC (Qz.out Z S YJ.out Yt.out Qv.out Ji.out (λq=>by rw[Dv.out q,Tr.out];simp));clear Qz
    gi_wp2
    exact HF.out
   |true=>
    have lW:=Fj ne gs ne S t.size Z Ji.out.row mU (by omega) Ji.out.lt
    gi_wp2_with (refine⟨trivial,?_⟩;gi_at_call 146;refine(CallsIn.inRound l (callsIn_wide.2 lW)).mono ?_;rintro e9 W9 ⟨rfl,hr9,xi⟩)
    have OS:aE (λk=>k=W4.heap.size\/k=gs) W3 W9:=YJ.out.grown xi (λk e=>by cases e;exact .inl (.inr rfl));exact Qz.out W9 (kP S t.size) OS (Yt.out.trans λmg f e=>(xi.block mg (ap.1 e).1 (λe2=>by cases e2;rw[Ji.out.row]at e;exact absurd (bP e) (by decide))).trans e) ((xi.block _ (ap.1 Qv.out).1 (λe=>by cases e;exact SP rfl)).trans Qv.out) ⟨hr9,IA S Ji.out.lt _⟩ (λq=>by
     rw[Dv.out q,Il,sw,Tr.out];simp)
end Go.Proofs.YtdimhpfiieepiaaGreatDoor
