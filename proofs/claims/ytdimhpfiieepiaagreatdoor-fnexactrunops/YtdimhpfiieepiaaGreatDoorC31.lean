import Derived.Test.YtdimhpfiieepiaaGreatDoorC30
import Derived.WalkMore
namespace Go.Proofs.YtdimhpfiieepiaaGreatDoor
open Proofs.Tryz
open Option renaming some->za,none->zb
open Value renaming slice->zc,pointer->zg,int->zj,agg->zl
open Go renaming World->zd,Value->zi,TypeId->zm,Calls->zn
open RowKit renaming Hid->ze,Below->zk
open Obj renaming cells->zf
set_option maxHeartbeats 2000000
set_option maxRecDepth 100000
open Go.RowKit
section
open Go
section
variable {P:Program} {ops:Array Oper} {md:Region.Mode} {C:zd->Prop} {Q:Exit->Act->zd->Prop}
def JI(md:Region.Mode)(ops:Array Oper):List Nat->Array Bool->Bool
 |[],listed=>(Region.ready md ops listed).isEmpty
 |j::js,listed=>(Region.ready md ops listed == [j])&&JI md ops js (listed.setIfInBounds j true)
def nC(P:Program)(ops:Array Oper)(C:zd->Prop)(t:Nat)(Q:Exit->Act->zd->Prop):List (Nat×Oper)->Act->zd->Prop
 |[],a,w=>Q .normal a w
 |(_,o)::rest,a,w=>if Region.wanted o (yielded ops a.tmps) then o.wp P a w (λa' w'=>(t∈rest.map Prod.fst->C w')/\nC P ops C t Q rest a' w') Q else (t∈rest.map Prod.fst->C w)/\nC P ops C t Q rest (a.put o.dst undef) w
theorem WT{t:Nat}:∀(js:List Nat) (l:List (Nat×Oper)) (listed:Array Bool) (a:Act) (w:zd),l.map Prod.fst=js->(∀x∈l,ops[x.1]?=za x.2)->(∀k,listed.getD k true=false->k∈js)->JI md ops js listed=true->nC P ops C t Q l a w->wR P md ops C t Q l.length listed a w
 |[],[],listed,_,_,_,_,_,hB,h=>by
  simp only[JI,List.isEmpty_iff]at hB;exact⟨hB,h⟩
 |j::js,(j',o)::l,listed,a,w,hl,ho,hk,hB,h=>by
  obtain⟨rfl,uN⟩:j'=j/\l.map Prod.fst=js:=by simpa using hl
  simp only[JI,de,beq_iff_eq]at hB;have h0:ops[j']?=za o:=ho (j',o) (by simp);have xH:∀k,(listed.setIfInBounds j' true).getD k true=false->k∈js:=λk hf=>by
   by_cases e:j'=k
   ·subst e;rcases ig j' listed.size with h'|h'
    ·simp[h']at hf
    ·simp at hf
   ·rw[Nb e]at hf;rcases pI.1 (hk k hf) with h1|h1
    ·exact absurd h1.symm e
    ·exact h1
  have ih:=λa w h=>WT (t:=t) js l (listed.setIfInBounds j' true) a w uN (λx hx=>ho x (by simp[hx])) xH hB.2 h
  have zxe:∀{p:Prop},(t∈l.map Prod.fst->p)->(listed.setIfInBounds j' true).getD t true=false->p:=λhp hf=>hp (by rw[uN];exact xH t hf)
  refine⟨λe=>absurd e (by rw[hB.1];simp),λi hi=>?_⟩;rw[hB.1]at hi;have e:i=j':=by simpa using hi
  subst e;unfold wpOp;simp only[h0];unfold nC at h
  by_cases hw:Region.wanted o (yielded ops a.tmps)=true
  ·rw[aC hw]at h ⊢;exact .inl (Oper.wp_mono (λa w h=>⟨zxe h.1,ih a w h.2⟩) h)
  ·rw[ak hw]at h ⊢;exact⟨zxe h.1,ih _ _ h.2⟩
 |[],(_,_)::_,_,_,_,h,_,_,_,_=>by simp at h
 |_::_,[],_,_,_,h,_,_,_,_=>by simp at h
def MC(md:Region.Mode)(ops:Array Oper)(js:List Nat):List Nat->Array Bool->Bool
 |[],listed=>JI md ops js listed&&(List.range ops.size).all (λk=>listed.getD k true || js.contains k)
 |i::is,listed=>(Region.ready md ops listed).contains i&&Region.free md ops listed i&&MC md ops js is (listed.setIfInBounds i true)
def VJ(md:Region.Mode)(all:List Oper)(is js:List Nat)(t:Nat):Bool:=
 Region.noSelect all.toArray&&is.all (λi=>oH md all.toArray 8 t i&&decide (t≠i)&&(match all[i]? with|some o=>Gx o|none=>false))&&MC md all.toArray js is (Array.replicate all.length false)&&decide (is.length+js.length=all.length)&&js.all (λj=>decide (j<all.length))
theorem zhh{t:Nat}{js:List Nat}{lj:List (Nat×Oper)}(hs:Region.noSelect ops=true)(De:lj.map Prod.fst=js)(qN:∀x∈lj,ops[x.1]?=za x.2)(hQ:∀c a a' w,Q (.panic c) a w->Q (.panic c) a' w):
  ∀(is:List Nat) (l:List Oper) (listed:Array Bool) (a:Act) (w:zd),mE md ops listed->listed.size=ops.size->l.length=is.length->(∀k,k<is.length->∃i o,is[k]?=za i/\l[k]?=za o/\ops[i]?=za o/\Gx o=true/\oH md ops 8 t i=true/\t≠i)->
   MC md ops js is listed=true->C w->wpQuiet P ops C (λa'=>∀w',C w'->∀r,r=lj->nC P ops C t Q r a' w') l a->wR P md ops C t Q (is.length+lj.length) listed a w
 |[],[],listed,a,w,iq,hsz,_,_,hB,hC,h=>by
  simp only[MC,de,iQ,Ab,sK,List.contains_iff_mem]at hB;rw[oJ,jw];refine WT js lj listed a w De qN (λk hk=>?_) hB.1 (h w hC _ rfl);have hlt:k<ops.size:=by
   rcases ig k ops.size with h'|h'
   ·exact h'
   ·rw[<-hsz]at h';simp[Array.getElem?_eq_none h']at hk
  rcases hB.2 k hlt with h1|h1
  ·rw[hk]at h1;cases h1
  ·exact h1
 |i::is,o::l,listed,a,w,iq,hsz,IH,Dc,hB,hC,h=>by
  obtain⟨i',o',e1,e2,h0,kC,rX,Fq⟩:=Dc 0 (by simp);simp at e1 e2;subst e1;subst e2;simp only[MC,de]at hB;obtain⟨⟨hr,hf⟩,CQ⟩:=hB;have bV:i∈Region.ready md ops listed:=by simpa using hr
  have next:∀v,qk P ops C o v a->wpQuiet P ops C (λa'=>∀w',C w'->∀r,r=lj->nC P ops C t Q r a' w') l (a.put o.dst v)->wR P md ops C t Q ((i::is).length+lj.length) listed a w:=λv hy hk=>by
   have ih:=zhh hs De qN hQ is l (listed.setIfInBounds i true) (a.put o.dst v) w (iq.set bV) (by simpa using hsz) (by simpa using IH) (λk hk=>by have:=Dc (k+1) (by simp;omega);simpa using this) CQ hC hk;rw[show (i::is).length+lj.length=(is.length+lj.length)+1 by simp;omega];exact Xd h0 Fq (λL hc hl=>FN hc 8 t i hl rX) (Region.noSelect_spec hs) hQ _ listed a w iq (Region.free_spec h0 hf) bV hy hC ih
  unfold wpQuiet at h
  by_cases hw:Region.wanted o (yielded ops a.tmps)=true
  ·rw[aC hw]at h;obtain⟨v,hy,hk⟩:=ziX kC hw h;exact next v hy hk
  ·rw[ak hw]at h;exact next undef (.inr ⟨by simpa using hw,rfl⟩) h
 |[],_::_,_,_,_,_,_,h,_,_,_,_=>by simp at h
 |_::_,[],_,_,_,_,_,h,_,_,_,_=>by simp at h
theorem zqw(is js:List Nat)(t:Nat){a:Act}{w:zd}{all:List Oper}(C:zd->Prop)(hC:C w)(hB:VJ .any all is js t=true)(hQ:∀c a a' w,Q (.panic c) a w->Q (.panic c) a' w)
  (h:∀l,l=is.filterMap (λi=>all[i]?)->wpQuiet P all.toArray C (λa'=>∀w',C w'->∀r,r=js.filterMap (λj=>(all[j]?).map λo=>(j,o))->nC P all.toArray C t Q r a' w') l a):wpAny P .any all.toArray Q all.toArray.size (Array.replicate all.toArray.size false) a w:=by
 simp only[VJ,de,iQ,lx]at hB;obtain⟨⟨⟨⟨hs,hi⟩,Bm⟩,hlen⟩,hj⟩:=hB;have key:∀(is:List Nat),(∀x∈is,(oH .any all.toArray 8 t x=true/\t≠x)/\(match all[x]? with|some o=>Gx o|none=>false)=true)->(is.filterMap (λi=>all[i]?)).length=is.length/\∀k,k<is.length->∃i o,is[k]?=za i/\(is.filterMap (λi=>all[i]?))[k]?=za o/\all.toArray[i]?=za o/\Gx o=true/\oH .any all.toArray 8 t i=true/\t≠i:=by
  intro is
  induction is with
  |nil=>intro _;exact⟨rfl,λk hk=>absurd hk (cR _)⟩
  |cons i is ih=>
   intro hx;obtain⟨⟨q1,q2⟩,q3⟩:=hx i (by simp);obtain⟨r1,r2⟩:=ih (λx kD=>hx x (by simp[kD]));cases ho:all[i]? with
   |none=>rw[ho]at q3;cases q3
   |some o=>
    rw[ho]at q3;have e:(i::is).filterMap (λi=>all[i]?)=o::is.filterMap (λi=>all[i]?):=by simp[ho]
    rw[e];refine⟨by simp[r1],λk hk=>?_⟩;cases k with
    |zero=>exact⟨i,o,rfl,rfl,by simpa using ho,q3,q1,q2⟩
    |succ k=>simpa using r2 k (by simpa using hk)
 have My:∀(js:List Nat),(∀j∈js,j<all.length)->(js.filterMap (λj=>(all[j]?).map λo=>(j,o))).map Prod.fst=js/\∀x∈js.filterMap (λj=>(all[j]?).map λo=>(j,o)),all.toArray[x.1]?=za x.2:=by
  intro js
  induction js with
  |nil=>intro _;exact⟨rfl,λx hx=>by cases hx⟩
  |cons j js ih=>
   intro hx;obtain⟨r1,r2⟩:=ih (λx kD=>hx x (by simp[kD]));have hl:=hx j (by simp);have e:(j::js).filterMap (λj=>(all[j]?).map λo=>(j,o))=(j,all[j])::js.filterMap (λj=>(all[j]?).map λo=>(j,o)):=by simp[hl]
   rw[e];refine⟨by simp[r1],λx kD=>?_⟩;rcases pI.1 kD with rfl|kD
   ·simp[hl]
   ·exact r2 x kD
 obtain⟨k1,k2⟩:=key is (λx hx=>by
  obtain⟨⟨a1,a2⟩,a3⟩:=hi x hx;exact⟨⟨a1,a2⟩,a3⟩)
 obtain⟨j1,j2⟩:=My js hj;have IE:(js.filterMap (λj=>(all[j]?).map λo=>(j,o))).length=js.length:=by rw[<-rf (f:=Prod.fst),j1]
 have h1:=zhh (P:=P) (C:=C) (Q:=Q) (md:=.any) (t:=t) hs j1 j2 hQ is _ (Array.replicate all.toArray.size false) a w (mE.start _ _) (by simp) k1 k2 (by simpa using Bm) hC (h _ rfl);have h2:=QG _ _ _ _ h1;rw[IE,hlen]at h2
 simpa using h2
theorem zhj(is js:List Nat)(t:Nat){id l nn:Nat}{a:Act}{w:zd}{all:List Oper}(C:zd->Prop)(hm:P.follows .mixedOrders=true)(hC:C w.drew)(hB:VJ .any all is js t=true)(hD:YG all=true)
  (h:∀l,l=is.filterMap (λi=>all[i]?)->wpQuiet P all.toArray C (λa'=>∀w',C w'->∀r,r=js.filterMap (λj=>(all[j]?).map λo=>(j,o))->nC P all.toArray C t (wT Q) r a' w') l a):(Code.region id all.toArray true).wpIn (Fence.wide.inRound l) nn P Q a w:=by
 refine wpIn_mono (wpIn_region_any hm ?_) Jm;have h1:=zqw (Q:=wT Q) is js t C hC hB (λ_ _ _ _ h=>h.elim) h;exact M8 l nn (by rintro ⟨_,_,h⟩;exact h) (zfX hD) _ _ _ _ h1
theorem DL{o:Oper}{a:Act}{w:zd}{K:Act->zd->Prop}(f:FuncId)(xs:Array Operand)(ats:Array zm)
  (ho:o.op=.call {callee:=.value (.func f),args:=xs,argTypes:=ats}) (args:Array zi) (CZ:(#[]++xs.map a.eval++#[]:Array zi)=args) (R:zi->zd->Prop) (pV:(callFunc f args).run P w=.ok (.enter f args) w)
  (hc:zn P f args w λe w'=>∃v,e=.returned v/\R v w') (h:∀v w',R v w'->K (a.put o.dst v) w'):Oper.wp P o a w K Q:=by
 obtain⟨dst,op,type,pos,after,guard⟩:=o;simp only at ho;subst ho;unfold Oper.wp;rw[execOp_call_go,CZ];rw[pV,Oper.upon_enter];refine hc.mono ?_;rintro e w' ⟨v,rfl,hR⟩;exact h v w' hR
theorem qj{t j:Nat}{o:Oper}{rest:List (Nat×Oper)}{a:Act}{w:zd}(hg:o.guard=zb)(h:∀K:Act->zd->Prop,(∀a' w',(t∈rest.map Prod.fst->C w')->nC P ops C t Q rest a' w'->K a' w')->o.wp P a w K Q):nC P ops C t Q ((j,o)::rest) a w:=by
 unfold nC;rw[aC (by simp[Region.wanted,hg])];exact h _ (λ_ _ h1 h2=>⟨h1,h2⟩)
theorem Ji{t:Nat}:∀(l:List (Nat×Oper)) (a:Act) (w:zd),t∉l.map Prod.fst->(∀a w,¬Q .outgrown a w)->wpList P ops Q (l.map Prod.snd) a w->nC P ops C t Q l a w
 |[],_,_,_,_,h=>h
 |(j,o)::l,a,w,hk,hL,h=>by
  simp only[wU]at h hk;have xH:t∉l.map Prod.fst:=λe=>hk (by simp[e])
  unfold wpList at h;unfold nC
  by_cases hw:Region.wanted o (yielded ops a.tmps)=true
  ·rw[aC hw]at h ⊢;rcases h with h|h
   ·exact Oper.wp_mono (λa w h=>⟨λe=>absurd e xH,Ji l a w xH hL h⟩) h
   ·obtain⟨_,a',w',h'⟩:=h;exact absurd h' (hL a' w')
  ·rw[ak hw]at h ⊢;exact⟨λe=>absurd e xH,Ji l _ w xH hL h⟩
end
end
structure Ce(w0:zd)(pl:Nat)(Q:Nat->Option Pt)(Ow:Nat->Nat->Prop)(Y:zd) where
 W:zd
 O:Nat->Nat->Prop
 h:cY w0 pl Q Ow Y O W
theorem zk2(xs:Array zi)(w:zd):(callFunc 124 xs).run prog w=.ok (.enter 124 xs) w:=by kernel_rfl
theorem ziv(xs:Array zi)(w:zd):(callFunc 125 xs).run prog w=.ok (.enter 125 xs) w:=by kernel_rfl
structure mK(w0:zd)(pl:Nat)(Q:Nat->Option Pt)(Ow:Nat->Nat->Prop)(w:zd)(ls:List fW)(u:aJ)(N ne n gt B6 H:Nat)(Fx:Nat->Prop)(WL W:zd)(mt me:Nat)(aF:Nat->Nat->Prop)(ge:Nat)(ET:Nat->Nat)(gx:Nat->Nat)(TT:Nat->Nat->Nat)(arr:Array zi):Prop where
 pt:cY w0 pl Q Ow w aF W
 fx:∀k,Fx k->W.heap[k]?=WL.heap[k]?
 fl:∀k,Fx k->w.heap.size<=k/\k<W.heap.size/\k≠gt/\k≠B6/\k≠H/\k≠H+1
 fr:∀k,(Fx k\/k=gt\/k=B6\/k=H\/k=H+1)->∀b,¬aF k b
 c6:W.heap[B6]?=za (zf #[zc (za ⟨ge,0,zb⟩) ne ne] 193 (0,0))
 row:W.heap[gt]?=za (zf arr 193 (0,0))
 len:arr.size=n
 at':∀j,n-mt<=j->j<n->arr[j]?=za (zc (za ⟨gx j,0,zb⟩) ne ne)
 one:∀j,j<n->∃x,arr[j]?=za x
 set:∀j,n-mt<=j->j<n->aH W ne (gx j) (TT j)/\w.heap.size<=gx j/\(∀b,¬aF (gx j) b)/\∀q,au (TT j) q=true↔ik u N (ls.drop (j+1)) q
 en:aH W ne ge ET/\w.heap.size<=ge/\(∀b,¬aF ge b)/\∀q,au ET q=true↔ik u N (ls.drop (n-me)) q
 nc:(∀o,W.heap[H]?=za o->o.isCells=false)/\∀o,W.heap[H+1]?=za o->o.isCells=false
 hs:w.heap.size<=gt/\w.heap.size<=B6/\w.heap.size<=H/\w0.heap.size<=w.heap.size/\gt≠B6
section
variable {w0:zd} {pl:Nat} {Q:Nat->Option Pt} {Ow:Nat->Nat->Prop} {w:zd} {ls:List fW} {u:aJ} {N ne n gt B6 H:Nat} {Fx:Nat->Prop} {WL W:zd} {mt me:Nat} {aF:Nat->Nat->Prop} {ge:Nat} {ET:Nat->Nat} {gx:Nat->Nat} {TT:Nat->Nat->Nat} {arr:Array zi}
theorem mK.I4(h:mK w0 pl Q Ow w ls u N ne n gt B6 H Fx WL W mt me aF ge ET gx TT arr){k:Nat}{cs:Array zi}{t:zm}(hk:W.heap[k]?=za (zf cs t (0,0))):k≠H/\k≠H+1:=by
 refine⟨λe=>?_,λe=>?_⟩
 ·have:=h.nc.1 _ (e ▸ hk);cases this
 ·have:=h.nc.2 _ (e ▸ hk);cases this
theorem mK.turn(h:mK w0 pl Q Ow w ls u N ne n gt B6 H Fx WL W mt me aF ge ET gx TT arr){W':zd}(t:ub H W W'):mK w0 pl Q Ow w ls u N ne n gt B6 H Fx WL W' mt me aF ge ET gx TT arr:=by
 obtain⟨s1,s2,s3,s4,s5⟩:=h.hs;have tc:ap (λk=>k=H\/k=H+1) W W':=⟨t.os,t.tape,t.output,t.size,λk h1 h2=>t.same k (λe=>h2 (.inl e)) (λe=>h2 (.inr e)) h1⟩;have cl:∀{k:Nat} {cs:Array zi} {ty:zm},W.heap[k]?=za (zf cs ty (0,0))->W'.heap[k]?=za (zf cs ty (0,0)):=λhk=>(t.same _ (h.I4 hk).1 (h.I4 hk).2 (ah.1 hk).1).trans hk
 have ps:∀{g:Nat} {T:Nat->Nat},aH W ne g T->aH W' ne g T:=λhp=>⟨cl hp.row,hp.lt⟩
 refine⟨h.pt.free tc (λ_ _ e=>cl e) (λk e=>?_),λk hk=>?_,λk hk=>?_,h.fr,cl h.c6,cl h.row,h.len,h.at',h.one,λj h1 h2=>?_,⟨ps h.en.1,h.en.2⟩,t.nc,h.hs⟩
 ·rcases e with e|e
  ·exact⟨by omega,h.fr k (.inr (.inr (.inr (.inl e)))),by omega⟩
  ·exact⟨by omega,h.fr k (.inr (.inr (.inr (.inr e)))),by omega⟩
 ·obtain⟨_,f1,_,_,f2,f3⟩:=h.fl k hk;exact(t.same k f2 f3 f1).trans (h.fx k hk)
 ·obtain⟨f0,f1,f2⟩:=h.fl k hk;exact⟨f0,bA f1 t.size,f2⟩
 ·obtain⟨g1,g2⟩:=h.set j h1 h2;exact⟨ps g1,g2⟩
theorem mK.below(h:mK w0 pl Q Ow w ls u N ne n gt B6 H Fx WL W mt me aF ge ET gx TT arr){W':zd}(hb:zk W.heap.size W W')(hH:H+1<W.heap.size):mK w0 pl Q Ow w ls u N ne n gt B6 H Fx WL W' mt me aF ge ET gx TT arr:=by
 have cl:∀{k:Nat} {cs:Array zi} {ty:zm},W.heap[k]?=za (zf cs ty (0,0))->W'.heap[k]?=za (zf cs ty (0,0)):=λhk=>(hb.block _ (ah.1 hk).1).trans hk
 have ps:∀{g:Nat} {T:Nat->Nat},aH W ne g T->aH W' ne g T:=λhp=>⟨cl hp.row,hp.lt⟩
 refine⟨h.pt.below hb,λk hk=>(hb.block k (h.fl k hk).2.1).trans (h.fx k hk),λk hk=>?_,h.fr,cl h.c6,cl h.row,h.len,h.at',h.one,λj h1 h2=>⟨ps (h.set j h1 h2).1,(h.set j h1 h2).2⟩,⟨ps h.en.1,h.en.2⟩,⟨λo ho=>h.nc.1 o (by rw[<-hb.block H (by omega)];exact ho),λo ho=>h.nc.2 o (by rw[<-hb.block (H+1) hH];exact ho)⟩,h.hs⟩;obtain⟨f0,f1,f2⟩:=h.fl k hk;exact⟨f0,bA f1 hb.size,f2⟩
theorem mK.store{m x:Nat}(h:mK w0 pl Q Ow w ls u N ne n gt B6 H Fx WL W m m aF ge ET gx TT arr)(hx:x+m+1=n):mK w0 pl Q Ow w ls u N ne n gt B6 H Fx WL (W.setCell ⟨gt,x,zb⟩ (zc (za ⟨ge,0,zb⟩) ne ne)) (m+1) m aF ge ET (λj=>if j=x then ge else gx j) (λj=>if j=x then ET else TT j) (arr.setIfInBounds x (zc (za ⟨ge,0,zb⟩) ne ne)):=by
 obtain⟨s1,s2,s3,s4,s5⟩:=h.hs;have hr:=dE W gt x _ _ (zc (za ⟨ge,0,zb⟩) ne ne) h.row;have ot:∀k,k≠gt->(W.setCell ⟨gt,x,zb⟩ (zc (za ⟨ge,0,zb⟩) ne ne)).heap[k]?=W.heap[k]?:=λk e=>cH _ _ _ _ (show k≠gt from e)
 have UZ:∀{k:Nat} {T:Nat->Nat},aH W ne k T->k≠gt:=λhp e=>by have:=hp.row;rw[e,h.row]at this;exact absurd (bL this) (by decide)
 have tc:ap (λk=>k=gt) W (W.setCell ⟨gt,x,zb⟩ (zc (za ⟨ge,0,zb⟩) ne ne)):=⟨rfl,rfl,rfl,by simp,λk _ h2=>ot k h2⟩;have LA:=h.I4 h.row;refine⟨h.pt.free tc (λmg f e=>(ot mg (λe2=>by rw[e2,h.row]at e;exact absurd (bL e) (by decide))).trans e) (λk e=>?_),λk hk=>(ot k (h.fl k hk).2.2.1).trans (h.fx k hk),λk hk=>?_,h.fr,(ot B6 (λe=>s5 e.symm)).trans h.c6,hr,by simp[h.len],λj h1 h2=>?_,λj hj=>?_,λj h1 h2=>?_,⟨⟨(ot ge (UZ h.en.1)).trans h.en.1.row,h.en.1.lt⟩,h.en.2⟩,⟨λo ho=>h.nc.1 o (by rw[<-ot H LA.1.symm];exact ho),λo ho=>h.nc.2 o (by rw[<-ot (H+1) LA.2.symm];exact ho)⟩,h.hs⟩
 ·have e:k=gt:=e;exact⟨by omega,h.fr k (.inr (.inl e)),by omega⟩
 ·obtain⟨f0,f1,f2⟩:=h.fl k hk;exact⟨f0,by simpa using f1,f2⟩
 ·have hl:=h.len
  by_cases e:j=x
  ·subst e;simp[show j<arr.size by omega]
  ·simp only[ak e];rw[Array.getElem?_setIfInBounds_ne (Ne.symm e)];exact h.at' j (by omega) h2
 ·by_cases e:j=x
  ·subst e;exact⟨_,by simp[show j<arr.size by have:=h.len;omega];rfl⟩
  ·rw[Array.getElem?_setIfInBounds_ne (Ne.symm e)];exact h.one j hj
 ·by_cases e:j=x
  ·subst e;simp only[if_true];refine⟨⟨(ot ge (UZ h.en.1)).trans h.en.1.row,h.en.1.lt⟩,h.en.2.1,h.en.2.2.1,λq=>?_⟩;rw[h.en.2.2.2 q,show n-m=j+1 from by omega]
  ·simp only[ak e];obtain⟨g1,g2⟩:=h.set j (by omega) h2;exact⟨⟨(ot _ (UZ g1)).trans g1.row,g1.lt⟩,g2⟩
theorem mK.next{m x gs:Nat}(h:mK w0 pl Q Ow w ls u N ne n gt B6 H Fx WL W (m+1) m aF ge ET gx TT arr)(hx:x+m+1=n){jC:Nat->Nat->Prop}{W3 W5:zd}(FE:cY w0 pl Q aF W jC W3)(tc:ap (λk=>k=B6\/k=gs) W3 W5)(km:bJ W3 W5)(iJ:W.heap.size<=gs)(C9:∀b,¬jC gs b)(hH:H+1<W.heap.size)(Px:W5.heap[B6]?=za (zf #[zc (za ⟨gs,0,zb⟩) ne ne] 193 (0,0))){S:Nat->Nat}(hp:aH W5 ne gs S)(hb:∀q,au S q=true↔ik u N (ls.drop x) q):mK w0 pl Q Ow w ls u N ne n gt B6 H Fx WL W5 (m+1) (m+1) jC gs S gx TT arr:=by
 obtain⟨s1,s2,s3,s4,s5⟩:=h.hs;have wz:=h.pt.size;have OY:B6<W.heap.size:=(ah.1 h.c6).1;have zBK:=FE.size;have fr:∀k,w.heap.size<=k->k<W.heap.size->(∀b,¬aF k b)->k≠B6->W5.heap[k]?=W.heap[k]?/\∀b,¬jC k b:=λk h1 h2 h3 h4=>by
  obtain⟨e1,e2⟩:=FE.eG k (by omega) h2 h3;exact⟨(tc.same k (by omega) (by omega)).trans e1,e2⟩
 have OX:=h.I4 h.c6;have fH:=fr H s3 (by omega) (h.fr H (.inr (.inr (.inr (.inl rfl))))) OX.1.symm;have fH1:=fr (H+1) (by omega) hH (h.fr (H+1) (.inr (.inr (.inr (.inr rfl))))) OX.2.symm;have fgt:=fr gt s1 (ah.1 h.row).1 (h.fr gt (.inr (.inl rfl))) s5;have LW:∀{k:Nat} {T:Nat->Nat},aH W ne k T->k≠B6:=λhp e=>by have:=hp.row;rw[e,h.c6]at this;exact absurd (bL this) (by decide)
 have fB6:=(FE.eG B6 (by omega) OY (h.fr B6 (.inr (.inr (.inl rfl))))).2;refine⟨(h.pt.trans FE).free tc km (λk e=>?_),λk hk=>?_,λk hk=>?_,λk hk=>?_,Px,fgt.1.trans h.row,h.len,h.at',h.one,λj h1 h2=>?_,⟨hp,by omega,C9,λq=>?_⟩,⟨λo ho=>h.nc.1 o (by rw[<-fH.1];exact ho),λo ho=>h.nc.2 o (by rw[<-fH1.1];exact ho)⟩,h.hs⟩
 ·rcases e with e|e
  ·exact⟨by omega,e ▸ fB6,by omega⟩
  ·exact⟨by omega,e ▸ C9,by omega⟩
 ·obtain⟨f0,f1,f2,f3,f4⟩:=h.fl k hk;exact(fr k f0 f1 (h.fr k (.inl hk)) f3).1.trans (h.fx k hk)
 ·obtain⟨f0,f1,f2⟩:=h.fl k hk;exact⟨f0,by have:=tc.size;omega,f2⟩
 ·rcases hk with hk|hk|hk|hk|hk
  ·obtain⟨f0,f1,f2,f3,f4⟩:=h.fl k hk;exact(fr k f0 f1 (h.fr k (.inl hk)) f3).2
  ·rw[hk];exact fgt.2
  ·rw[hk];exact fB6
  ·rw[hk];exact fH.2
  ·rw[hk];exact fH1.2
 ·obtain⟨g1,g2,g3,g4⟩:=h.set j h1 h2;obtain⟨e1,e2⟩:=fr (gx j) g2 g1.cB g3 (LW g1);exact⟨⟨e1.trans g1.row,g1.lt⟩,g2,e2,g4⟩
 ·rw[hb q,show n-(m+1)=x from by omega]
end
section
variable {w0:zd}{pl i:Nat}{Q:Nat -> Option Pt}{Ow:Nat -> Nat -> Prop}{xs:List (Nat×fW)}
attribute [local go_sem] Oper.semAt_some
theorem zpr{lo go cap:Nat}(hr:w0.ownsRow lo 299 2 (zc (za ⟨go,0,zb⟩) xs.length cap) xs.length (gJ xs)){w:zd}(h:cF w0 pl Q Ow w){i a:Nat}{q:Pt}{o:Bool}(hx:xs[i]?=za (a,q,o)):w.cell? ⟨go,i*2,zb⟩=za (zg (za ⟨a,0,zb⟩))/\w.cell? ⟨go,i*2+1,zb⟩=za (.bool o):=by
 have hi:=(zY.1 hx).1;rcases hr.2 with ⟨h0,_⟩|⟨g',cap',ax,hv,h1,h2,h3,h4,h5,h6⟩
 ·cases h0
 ·cases hv
  have hw:=h.dO h2 (by decide) (by decide);obtain⟨l1,l2⟩:=YE xs i a q o hx;have hg:∀j,j<xs.length*2->ax[j]?=(gJ xs)[j]?:=λj hj=>by
   rw[<-h6,B3,aC hj];simp
  rw[aM _ _ _ _ _ _ hw,aM _ _ _ _ _ _ hw,hg _ (by omega),hg _ (by omega)];exact⟨l1,l2⟩
def wC(xs:List (Nat×fW))(i:Nat):Nat:=(xs.getD i (0,.set λ_=>false,false)).1
def xQ(xs:List (Nat×fW))(i:Nat):Bool:=(xs.getD i (0,.set λ_=>false,false)).2.2
def tR(xs:List (Nat×fW))(i:Nat):Pt:=(xs.getD i (0,.set λ_=>false,false)).2.1
theorem DV(hi:i<xs.length):xs[i]?=za (wC xs i,tR xs i,xQ xs i):=by
 unfold wC tR xQ;rw[bP,dh hi]
 rfl
theorem zps(hi:i<xs.length):(xs.map Prod.snd).drop i=(tR xs i,xQ xs i)::(xs.map Prod.snd).drop (i+1):=by
 have h1:=DV hi;have hl:i<(xs.map Prod.snd).length:=by simpa using hi
 rw[oK hl]
 congr 1
 have:(xs.map Prod.snd)[i]?=za (tR xs i,xQ xs i):=by rw[yA,h1];rfl
 rw[dh hl]at this;exact Option.some.inj this
def TlA(w0:zd)(pl:Nat)(Q:Nat->Option Pt)(Ow:Nat->Nat->Prop)(w:zd)(ls:List fW)(u:aJ)(N ne n:Nat)(e:Ending)(w':zd):Prop:=
 ∃(aF:Nat->Nat->Prop) (gt:Nat) (gx:Nat->Nat) (TT:Nat->Nat->Nat),e=.returned (zc (za ⟨gt,0,zb⟩) n n)/\cY w0 pl Q Ow w aF w'/\w.heap.size<=gt/\(∀b,¬aF gt b)/\(∀j,j<n->w'.cell? ⟨gt,j,zb⟩=za (zc (za ⟨gx j,0,zb⟩) ne ne))/\∀j,j<n->aH w' ne (gx j) (TT j)/\w.heap.size<=gx j/\(∀b,¬aF (gx j) b)/\∀q,au (TT j) q=true↔ik u N (ls.drop (j+1)) q
theorem zsm(w:zd)(h:cF w0 pl Q Ow w)(lo go cap:Nat)(xs:List (Nat×fW))(hr:w0.ownsRow lo 299 2 (zc (za ⟨go,0,zb⟩) xs.length cap) xs.length (gJ xs))(hQ:∀x,x∈xs->Q x.1=za x.2.1)(qa:xs.length<=100000)(t:ByteArray)(ht:t.size<=4096)(Ff:∀k,k<=xs.length->∃m,ik t.data.toList t.size ((xs.map Prod.snd).drop k) m):
  zn prog 228 #[zl #[zc (za ⟨go,0,zb⟩) xs.length cap],.string t] w λe w'=>TlA w0 pl Q Ow w (xs.map Prod.snd) t.data.toList t.size (t.size/64+1) xs.length e w':=by
 obtain⟨i1,hj,qO,kY,od⟩:=info_parts Tryz.Mw;obtain⟨n,Hn⟩:∃n,ze (xs.length=n):=⟨_,rfl⟩;obtain⟨ne,Ar⟩:∃ne,ze (t.size/64+1=ne):=⟨_,rfl⟩;have Fe:ne<=100:=by have:=Ar.out;omega
 have lG:t.size<64*ne:=by have:=Ar.out;omega
 have hgo:go<w0.heap.size:=(Gd hr).2.2.1;obtain⟨zzj,zwL⟩:=(Gd hr).2.2.2;have ZJ:ze (∀W dX,cF w0 pl Q dX W->W.heap[go]?=za (zf zzj 299 (0,0))):=λW dX hI=>hI.dO zwL (by decide) (by decide)
 clear zwL;have wz:=h.size;have Ao:ze (∀W dX,cF w0 pl Q dX W->∀i,i<n->W.cell? ⟨go,i*2,zb⟩=za (zg (za ⟨wC xs i,0,zb⟩))/\W.cell? ⟨go,i*2+1,zb⟩=za (.bool (xQ xs i))):=λW dX hI i hi=>zpr hr hI (DV (by have:=Hn.out;omega))
 have HQ:ze (∀i,i<n->Q (wC xs i)=za (tR xs i)):=λi hi=>by
  have hx:=DV (xs:=xs) (i:=i) (by have:=Hn.out;omega);exact hQ _ (B8 hx)
 have Sg:ze (∀i,i<n->(xs.map Prod.snd).drop i=(tR xs i,xQ xs i)::(xs.map Prod.snd).drop (i+1)):=λi hi=>zps (by have:=Hn.out;omega)
 have xi:ze ((xs.map Prod.snd).drop n=[]):=by show _=_;rw[<-Hn.out];simp
 rw[Hn.out]at Ff;have St:=aA Ff;have Hi:=aA h;have rU:=λW=>QR t.size W ht
 rw[Hn.out]at qa ⊢;rw[Ar.out]at rU ⊢;generalize xs.map Prod.snd=ls at *;generalize wC xs=pa at *;generalize xQ xs=po at *;generalize tR xs=pq at *;clear hr hQ Ff h Hn;refine(callsIn_wide (n:=5)).1 ?_;refine callsIn_of_wp_marks func228 rfl trivial ?_ rfl;refine wpIn_wide.2 ?_;simp only[ntmps228,yE,qu,oJ,Nat.reduceAdd,Nat.reduceSub,B4,B5,B9,BW,wX,BX];obtain⟨W1,cm⟩:∃W1,(w.alloc (zf #[zc (za ⟨go,0,zb⟩) n cap] 305)).alloc (zf #[.string t] 9)=W1:=⟨_,rfl⟩;have ag:zk w.heap.size w W1:=by rw[<-cm];exact(aw).alloc (by simp) _
 have x0:W1.heap[w.heap.size]?=za (zf #[zc (za ⟨go,0,zb⟩) n cap] 305 (0,0)):=by rw[<-cm];exact cX (aI _ _)
 have x1:W1.heap[w.heap.size+1]?=za (zf #[.string t] 9 (0,0)):=by
  rw[<-cm];have:=aI (w.alloc (zf #[zc (za ⟨go,0,zb⟩) n cap] 305)) (zf #[.string t] 9)
  simpa using this
 have c0:W1.cell? ⟨w.heap.size,0,zb⟩=za (zc (za ⟨go,0,zb⟩) n cap):=(aM _ _ _ _ _ _ x0:_=_);have ia:w.heap.size+1<W1.heap.size:=(ah.1 x1).1
 go_wp2_with (at_make;refine wpList_make_full _ rfl _ _ 227 rfl w.heap.size 193 i1 _ 1 underlying227 hj qO kY _ _ _ _ n rfl rfl rfl rfl (by rw[od];omega) (by unfold maxLen;omega) ag.size ?_;intro W2 aB ez;have ae:zk W1.heap.size W1 W2:=⟨ez.os,ez.tape,ez.output,ez.size,λk hk=>ez.block k hk (by simp)⟩;obtain⟨W3,eN⟩:∃W3,W2.alloc (zf #[zc (za ⟨W1.heap.size,0,zb⟩) n n] 227)=W3:=⟨_,rfl⟩;have aG:zk W2.heap.size W2 W3:=(by rw[<-eN];exact aw);have x5:W3.heap[W2.heap.size]?=za (zf #[zc (za ⟨W1.heap.size,0,zb⟩) n n] 227 (0,0)):=(by rw[<-eN];exact aI _ _);have ER:zk W1.heap.size W1 W3:=ae.trans (aG.mono ae.size);have d1:W3.cell? ⟨w.heap.size+1,0,zb⟩=za (.string t):=(ER.cell (p:=⟨w.heap.size+1,0,zb⟩) ia).trans (aM _ _ _ _ _ _ x1))
 refine(rU W3).mono ?_;rintro e W4 ⟨U,rfl,hU,gX,bE⟩;obtain⟨W5,tE⟩:∃W5,W4.alloc (zf #[zc (za ⟨W3.heap.size,0,zb⟩) ne ne] 193)=W5:=⟨_,rfl⟩;have bD:zk W4.heap.size W4 W5:=by rw[<-tE];exact aw
 have x6:W5.heap[W4.heap.size]?=za (zf #[zc (za ⟨W3.heap.size,0,zb⟩) ne ne] 193 (0,0)):=by rw[<-tE];exact aI _ _
 have Pj:zk W3.heap.size W3 W5:=bE.trans (bD.mono bE.size);have Bc:zk W1.heap.size W1 W5:=ER.trans (Pj.mono ER.size);have kw:w.heap.size<W1.heap.size:=by omega
 have e0:W5.cell? ⟨w.heap.size,0,zb⟩=za (zc (za ⟨go,0,zb⟩) n cap):=(Bc.cell (p:=⟨w.heap.size,0,zb⟩) kw).trans c0;have aZ:=zor go n cap W5;have l9:W2.heap.size<W3.heap.size:=(ah.1 x5).1;have Dl:W4.heap.size<W5.heap.size:=(ah.1 x6).1;have PP:=ae.size;have zxu:=bE.size;have hUl:W3.heap.size<W4.heap.size:=hU.cB;obtain⟨arr,mV,hlen,rV⟩:∃arr:Array zi,W2.heap[W1.heap.size]?=za (zf arr 193 (0,0))/\arr.size=n/\∀j,j<n->∃x,arr[j]?=za x:=by
  rcases aB.2 with ⟨e,_⟩|⟨g,cp,ax,e,q1,q2,q3,q4,q5,q6⟩
  ·cases e
  ·cases e
   exact⟨ax,q2,by omega,λj hj=>⟨_,Array.getElem?_eq_getElem (by omega)⟩⟩
 have cV:W1.heap.size<W2.heap.size:=(ah.1 mV).1;obtain⟨WL,Pc⟩:∃WL,W5.alloc (zf #[zc (za ⟨go,0,zb⟩) n cap] 300)=WL:=⟨_,rfl⟩;have ew:zk W5.heap.size W5 WL:=by rw[<-Pc];exact aw
 have xb:WL.heap[W5.heap.size]?=za (zf #[zc (za ⟨go,0,zb⟩) n cap] 300 (0,0)):=by rw[<-Pc];exact aI _ _
 have hs6:W5.heap.size<WL.heap.size:=(ah.1 xb).1;have T8:zk w.heap.size w WL:=ag.trans ((Bc.trans (ew.mono Bc.size)).mono ag.size);have hiL:=Hi.out.below T8;have nJ:ze (mK w0 pl Q Ow w ls t.data.toList t.size ne n W1.heap.size W4.heap.size WL.heap.size (λk=>k=w.heap.size\/k=w.heap.size+1\/k=W2.heap.size\/k=W5.heap.size) WL WL 0 0 Ow W3.heap.size U (λ_=>0) (λ_=>cQ) arr):=by
  have rQ:∀k,w.heap.size<=k->∀b,¬Ow k b:=λk hk b ho=>by have:=(Hi.out.ow k b ho).2;omega
  refine⟨cY.bR Hi.out T8,λ_ _=>rfl,λk hk=>by rcases hk with rfl|rfl|rfl|rfl<;>omega,λk hk=>?_,(ew.block _ Dl).trans x6,?_,hlen,λj h1 h2=>by omega,rV,λj h1 h2=>by omega,⟨(hU.below bD).below ew,by omega,rQ _ (by omega),λq=>?_⟩,⟨λo ho=>?_,λo ho=>?_⟩,by omega⟩
  ·rcases hk with hk|hk|hk|hk|hk
   ·rcases hk with rfl|rfl|rfl|rfl<;>exact rQ _ (by omega)
   all_goals (subst hk;exact rQ _ (by omega))
  ·exact(ew.block _ (by omega)).trans ((Pj.block _ (by omega)).trans ((aG.block _ (by omega)).trans mV))
  ·rw[gX q,Nat.sub_zero,xi.out];exact Iff.rfl
  ·rw[DZ (aj _)]at ho;cases ho
  ·rw[DZ (by omega)]at ho;cases ho
 have hcL:=Ao.out WL Ow hiL;have x0L:WL.heap[w.heap.size]?=za (zf #[zc (za ⟨go,0,zb⟩) n cap] 305 (0,0)):=(ew.block _ (by omega)).trans ((Bc.block _ kw).trans x0);have x1L:WL.heap[w.heap.size+1]?=za (zf #[.string t] 9 (0,0)):=(ew.block _ (by omega)).trans ((Bc.block _ ia).trans x1);have x5L:WL.heap[W2.heap.size]?=za (zf #[zc (za ⟨W1.heap.size,0,zb⟩) n n] 227 (0,0)):=(ew.block _ (by omega)).trans ((Pj.block _ l9).trans x5);have td:=aA x0L;have Au:=aA x1L;have GZ:=aA x5L;clear rU hU gX ae aG ER Pj Bc bD x0 x1 x5 x6 d1 c0 aB ez mV hlen rV hiL x0L x1L x5L T8
 go_wp2_with fail
 refine aZ.mono ?_;rintro e W6 ⟨rfl,lE⟩;rw[Pc]at lE;subst W6;clear aZ Pc e0 tE eN cm ew bE ag;go_wp2;refine(wpIn_wide (n:=5)).1 ?_
 rename_i K CU
 have zBm:go<WL.heap.size:=by omega
 have lz:ze (∀(W:zd) (me:Nat) (aF:Nat->Nat->Prop) (ge:Nat) (ET:Nat->Nat) (gx:Nat->Nat) (TT:Nat->Nat->Nat) (arr:Array zi),mK w0 pl Q Ow w ls t.data.toList t.size ne n W1.heap.size W4.heap.size WL.heap.size (λk=>k=w.heap.size\/k=w.heap.size+1\/k=W2.heap.size\/k=W5.heap.size) WL W n me aF ge ET gx TT arr->W.heap[WL.heap.size]?=za (.deferred (za []))->TlA w0 pl Q Ow w ls t.data.toList t.size ne n (.returned (zc (za ⟨W1.heap.size,0,zb⟩) n n)) (W.putObj WL.heap.size (.deferred zb))):=by
  intro W me aF ge ET gx TT arr hS hD;have hlt:=(ah.1 hD).1;have h2:=hS.turn (W':=W.putObj WL.heap.size (.deferred zb)) ⟨rfl,rfl,rfl,by simp,λk q1 _ _=>World.putObj_heap_other q1,λo ho=>by rw[World.putObj_heap_same hlt]at ho;cases ho;rfl,λo ho=>hS.nc.2 o (by rw[World.putObj_heap_other (by omega)]at ho;exact ho)⟩;refine⟨aF,_,gx,TT,rfl,h2.pt,by omega,h2.fr _ (.inr (.inl rfl)),λj hj=>?_,λj hj=>h2.set j (by omega) hj⟩;rw[aM _ _ _ _ _ _ h2.row];exact h2.at' j (by omega) hj
 refine zl4 (by omega) (gf:=232) (fb:=#[]) (lb:=#[zg (za ⟨W5.heap.size,0,zb⟩)]) rfl (enters_of func232 (by kernel_rfl) rfl)
  (T:=[W5.heap.size,go]) (by intro k hk;simp at hk;omega)
  (zm3 4 n go cap W5.heap.size pa po (by omega) qa WL xb hcL) (λ_=>rfl)
  (λpre W=>∃(aF:Nat->Nat->Prop) (ge:Nat) (ET:Nat->Nat) (gx:Nat->Nat) (TT:Nat->Nat->Nat) (arr:Array zi),mK w0 pl Q Ow w ls t.data.toList t.size ne n W1.heap.size W4.heap.size WL.heap.size (λk=>k=w.heap.size\/k=w.heap.size+1\/k=W2.heap.size\/k=W5.heap.size) WL W pre.length pre.length aF ge ET gx TT arr)
  (λc _ W=>c=.exit 0/\∃me:Nat,∃(aF:Nat->Nat->Prop) (ge:Nat) (ET:Nat->Nat) (gx:Nat->Nat) (TT:Nat->Nat->Nat) (arr:Array zi),mK w0 pl Q Ow w ls t.data.toList t.size ne n W1.heap.size W4.heap.size WL.heap.size (λk=>k=w.heap.size\/k=w.heap.size+1\/k=W2.heap.size\/k=W5.heap.size) WL W n me aF ge ET gx TT arr)
  (λs A B hs ht=>by
   obtain⟨aF,ge,ET,gx,TT,arr,h⟩:=hs;exact⟨aF,ge,ET,gx,TT,arr,h.turn ht⟩)
  (λc s A B hs ht=>by
   obtain⟨h1,me,aF,ge,ET,gx,TT,arr,h⟩:=hs;exact⟨h1,me,aF,ge,ET,gx,TT,arr,h.turn ht⟩)
  ⟨_,_,_,_,_,_,nJ.out⟩
  (λx W=>W.alloc (zf #[zg (za ⟨pa x.1,0,zb⟩),.bool (po x.1)] 299)) (λx W=>aw)
  (λx W=>{tmps:=#[zl #[zc (za ⟨go,0,zb⟩) n cap],.string t,zg (za ⟨w.heap.size,0,zb⟩),zg (za ⟨w.heap.size+1,0,zb⟩),zc zb 0 0,zg (za ⟨W2.heap.size,0,zb⟩),zg (za ⟨W4.heap.size,0,zb⟩),zj .i64 (x.1:Int),zg (za ⟨W.heap.size,0,zb⟩),zg (za ⟨w.heap.size,0,zb⟩),zc (za ⟨go,0,zb⟩) n cap,zj .i64 n,zc (za ⟨W1.heap.size,0,zb⟩) n n,.string t,zj .i64 (t.size:Int),zc (za ⟨W3.heap.size,0,zb⟩) ne ne,zg (za ⟨w.heap.size,0,zb⟩),zc (za ⟨go,0,zb⟩) n cap,.func (.func 232) #[] #[zg (za ⟨W5.heap.size,0,zb⟩)],zj .i64 (x.1:Int),zl #[zg (za ⟨pa x.1,0,zb⟩),.bool (po x.1)],undef,undef,undef,undef,undef,undef,undef,undef,undef,undef,undef,undef,undef,undef,undef,undef,undef,undef,undef,undef,undef,undef],defers:=[]})
  ?assign ?body ?done ?stop
 case assign=>
  intro l x W K hK;unfold OO
  gi_wp2
  exact hK
 case stop=>
  rintro D c pre W rfl _ ⟨rfl,me,aF,ge,ET,gx,TT,arr,hS⟩ hD;have c5:W.cell? ⟨W2.heap.size,0,zb⟩=za (zc (za ⟨W1.heap.size,0,zb⟩) n n):=(aM _ _ _ _ _ _ ((hS.fx W2.heap.size (.inr (.inr (.inl rfl)))).trans GZ.out):_=_);have HF:=aA (lz.out W me aF ge ET gx TT arr hS hD);have HD:=aA hD;clear hS hD
  gi_wp2
  try go_wp2
  refine⟨by simp,.inl ⟨_,_,rfl,run_takeDeferred HD.out,?_⟩⟩;exact⟨zc (za ⟨W1.heap.size,0,zb⟩) n n,by simp[results,results228,go_sem],HF.out⟩
 case done=>
  rintro D ys W rfl iu ⟨aF,ge,ET,gx,TT,arr,hS⟩ hD;rw[iu]at hS;have c5:W.cell? ⟨W2.heap.size,0,zb⟩=za (zc (za ⟨W1.heap.size,0,zb⟩) n n):=(aM _ _ _ _ _ _ ((hS.fx W2.heap.size (.inr (.inr (.inl rfl)))).trans GZ.out):_=_);have HF:=aA (lz.out W n aF ge ET gx TT arr hS hD);have HD:=aA hD;clear hS hD;refine CU _ _ ?_;dsimp only;go_wp2;refine⟨by simp,.inl ⟨_,_,rfl,run_takeDeferred HD.out,?_⟩⟩;exact⟨zc (za ⟨W1.heap.size,0,zb⟩) n n,by simp[results,results228,go_sem],HF.out⟩
 case body=>
  clear CU lz;rintro l pre ⟨x,hx⟩ W0 W hlen ⟨aF,ge,ET,gx,TT,arr,CV⟩ tL IP;have gG:zk W0.heap.size W0 (W0.alloc (zf #[zg (za ⟨pa x,0,zb⟩),.bool (po x)] 299)):=aw;have hS:=aA ((CV.below gG hlen).turn tL);have qL:W.heap[W0.heap.size]?=za (zf #[zg (za ⟨pa x,0,zb⟩),.bool (po x)] 299 (0,0)):=(tL.same _ (by omega) (by omega) (by simp)).trans (aI _ _);have LQ:∀b,¬aF W0.heap.size b:=λb ho=>by have:=(CV.pt.inv.ow _ b ho).2;omega
  have hWs:W0.heap.size<W.heap.size:=(ah.1 qL).1;have zBL:=CV.pt.size;obtain⟨m,Hm⟩:∃m,ze (pre.length=m):=⟨_,rfl⟩;have U2:x+m+1=n:=by have:=Hm.out;have:x+pre.length+1=n:=IP;omega
  have rz:=aA U2;rw[Hm.out]at hS;have c5:W.cell? ⟨W2.heap.size,0,zb⟩=za (zc (za ⟨W1.heap.size,0,zb⟩) n n):=(aM _ _ _ _ _ _ ((hS.out.fx W2.heap.size (.inr (.inr (.inl rfl)))).trans GZ.out):_=_);have c6:W.cell? ⟨W4.heap.size,0,zb⟩=za (zc (za ⟨ge,0,zb⟩) ne ne):=(aM _ _ _ _ _ _ hS.out.c6:_=_);obtain⟨y,hy⟩:=hS.out.one x hx;have cx:W.cell? ⟨W1.heap.size,x,zb⟩=za y:=(aM _ _ _ _ _ _ hS.out.row).trans hy;have fx:=cT _ _ x _ _ hS.out.row;have fA:=aA (hS.out.store U2);have LA:=hS.out.I4 hS.out.row;have fD:W0.heap.size≠W1.heap.size:=λe=>by have:=hS.out.row;rw[<-e,qL]at this;exact absurd (bL this) (by decide)
  have j9:(0:Int)<=(x:Int):=by omega
  have rY:(x:Int)<(n:Int):=by omega
  obtain⟨Y,hY⟩:∃Y,W.setCell ⟨W1.heap.size,x,zb⟩ (zc (za ⟨ge,0,zb⟩) ne ne)=Y:=⟨_,rfl⟩;rw[hY]at fA;have Pe:∀k,k≠W1.heap.size->Y.heap[k]?=W.heap[k]?:=λk e=>by rw[<-hY];exact cH _ _ _ _ (show k≠W1.heap.size from e)
  have Sn:ze (Gu WL.heap.size W Y):=⟨Pe _ LA.1.symm,Pe _ LA.2.symm⟩;have hYs:Y.heap.size=W.heap.size:=by rw[<-hY];simp
  have HT:ze (∀k,k∈[W5.heap.size,go]->Y.heap[k]?=W.heap[k]?):=λk hk=>Pe k (by simp at hk;omega)
  have PH:=(Pe _ fD).trans qL;clear CV tL gG qL hy IP U2 xb hcL nJ;dsimp only
  by_cases Mr:x=0
  ·have hd:((x:Int)==0)=true:=by simp[Mr]
   have Hxz:=aA Mr;have HF:ze (∃me:Nat,∃(aF:Nat->Nat->Prop) (ge:Nat) (ET:Nat->Nat) (gx:Nat->Nat) (TT:Nat->Nat->Nat) (arr:Array zi),mK w0 pl Q Ow w ls t.data.toList t.size ne n W1.heap.size W4.heap.size WL.heap.size (λk=>k=w.heap.size\/k=w.heap.size+1\/k=W2.heap.size\/k=W5.heap.size) WL Y n me aF ge ET gx TT arr):=⟨m,_,_,_,_,_,_,by have h:=fA.out;rw[show m+1=n from by have:=rz.out;have:=Hxz.out;omega]at h;exact h⟩;clear Mr hS fA
   gi_wp2
   exact⟨Sn.out,rfl,HF.out⟩
  ·have hd:((x:Int)==0)=false:=by simp[Mr]
   clear Mr hS
   gi_wp2
   clear hY c5 c6 cx fx hd;have eG:∀{W':zd} {O':Nat->Nat->Prop} (k:Nat),cY w0 pl Q aF Y O' W'->w.heap.size<=k->k<Y.heap.size->(∀b,¬aF k b)->W'.heap[k]?=Y.heap[k]?:=λk hT h1 h2 h3=>(hT.eG k (by omega) h2 h3).1
   have OY:W4.heap.size<Y.heap.size:=(ah.1 fA.out.c6).1;have h1l:w.heap.size+1<Y.heap.size:=(fA.out.fl _ (.inr (.inl rfl))).2.1;have zw5:W0.heap.size<Y.heap.size:=(ah.1 PH).1;have vD:ze (∀s:Ce w0 pl Q aF Y,s.W.heap[W0.heap.size]?=za (zf #[zg (za ⟨pa x,0,zb⟩),.bool (po x)] 299 (0,0))):=λs=>(eG _ s.h (by omega) zw5 LQ).trans PH
   have H6:ze (∀s:Ce w0 pl Q aF Y,s.W.heap[W4.heap.size]?=za (zf #[zc (za ⟨ge,0,zb⟩) ne ne] 193 (0,0))):=λs=>(eG _ s.h (by omega) OY (fA.out.fr _ (.inr (.inr (.inl rfl))))).trans fA.out.c6
   have H1:ze (∀s:Ce w0 pl Q aF Y,s.W.heap[w.heap.size+1]?=za (zf #[.string t] 9 (0,0))):=λs=>(eG _ s.h (by omega) h1l (fA.out.fr _ (.inl (.inr (.inl rfl))))).trans ((fA.out.fx _ (.inr (.inl rfl))).trans Au.out)
   have xl:∀s:Ce w0 pl Q aF Y,s.W.cell? ⟨W0.heap.size,0,zb⟩=za (zg (za ⟨pa x,0,zb⟩)):=λs=>(jr (vD.out s)).1
   have x6:∀s:Ce w0 pl Q aF Y,s.W.cell? ⟨W4.heap.size,0,zb⟩=za (zc (za ⟨ge,0,zb⟩) ne ne):=λs=>(aM _ _ _ _ _ _ (H6.out s):_=_)
   have x1:∀s:Ce w0 pl Q aF Y,s.W.cell? ⟨w.heap.size+1,0,zb⟩=za (.string t):=λs=>(aM _ _ _ _ _ _ (H1.out s):_=_)
   have Vf:cY w0 pl Q aF Y aF Y.drew:=cY.bR fA.out.pt.inv ((Below.refl _ _).drew)
   haveI zz3:Nonempty (Ce w0 pl Q aF Y):=⟨⟨_,_,Vf⟩⟩
   have fP:prog.follows .mixedOrders=true:=by kernel_rfl
   refine zhj [0,1,3,4] [2,5,6,7,8,9] 5 (λw'=>∃s:Ce w0 pl Q aF Y,w'=s.W) fP ⟨⟨_,_,Vf⟩,rfl⟩ (by kernel_rfl) rfl ?_;intro os bW;simp only[jQ,jR,jT,jS]at bW;subst bW
   change wpQuiet _ _ _ _ [_,_,_,_] _
   repeat (go_big_quiet_step (fail))
   refine wpQuiet_nil ?_;rintro w' ⟨⟨Wb,Ob,eX⟩,hw'⟩ r' bV;replace hw':w'=Wb:=hw';subst w';simp only[jQ,jR,jT,jS,D7]at bV;subst bV;clear xl x6 x1;refine qj rfl (λK5 fX=>?_);refine DL 124 #[.tmp 28] #[198] (by rfl) #[zg (za ⟨pa x,0,zb⟩)] (by simp[Act.eval]) (λvs w1=>∃(s:Nat) (dX:Nat->Nat->Prop) (X:Nat->Prop) (v:eE) (ra rb:cz) (O1 O2:Nat->Prop),vs=zg (za ⟨s,0,zb⟩)/\lS w0 pl Q (pa x) (pq x) dX w1 s X v ra rb O1 O2/\ra.m<=8192/\rb.m<=8192/\nI pl (pa x) Ob Wb dX w1 X) (zk2 _ _) ((Jp (pa x) (pq x) Wb eX.inv (HQ.out x hx)).mono (by
     rintro e w1 ⟨s,dX,X,v,ra,rb,O1,O2,rfl,h1,h2,h3,h4⟩;exact⟨_,rfl,s,dX,X,v,ra,rb,O1,O2,rfl,h1,h2,h3,h4⟩)) ?_
   rintro vs w1 ⟨s,dX,X,v,ra,rb,O1,O2,rfl,mX,tG,pX,hch⟩;have tD:=eX.trans (mX.zL hch);refine fX _ _ (λ_=>⟨⟨_,_,tD⟩,rfl⟩) ?_;clear fX K5;have CS:=fA.out.en;have zwM:ge<Y.heap.size:=CS.1.cB;have hE1:aH w1 ne ge ET:=⟨(eG ge tD CS.2.1 zwM CS.2.2.1).trans CS.1.row,CS.1.lt⟩;have zwq:¬X ge:=λe=>by
    have hb:=(eX.eG ge (by omega) zwM CS.2.2.1).2;have:=eX.size;rcases hch.xs ge e with f|f
    ·exact hb _ f
    ·omega
   have hdn:n-m=x+1:=by have:=rz.out;omega
   obtain⟨q0,tJ⟩:=St.out (x+1) (by omega);have Ic:∀q,au ET q=true↔ik t.data.toList t.size (ls.drop (x+1)) q:=λq=>by rw[CS.2.2.2 q,hdn]
   have jk:=Qs mX (by omega) (by omega) t ht ne ge ne ET hE1 Fe zwq ⟨q0,by have:=tJ.le;omega,(Ic q0).2 tJ⟩ (λq _ hb=>((Ic q).1 hb).le);refine qj rfl (λK5 fX=>?_);refine DL 125 #[.tmp 29,.tmp 30,.tmp 31] #[197,9,193] (by rfl) #[zg (za ⟨s,0,zb⟩),.string t,zc (za ⟨ge,0,zb⟩) ne ne] (by simp[Act.eval,Act.put]) (λvs w'=>YZ w0 pl Q (pa x) (pq x) dX w1 s X v ra rb O1 O2 ne t.data.toList (λq=>q<64*ne/\au ET q=true) (.returned vs) w') (ziv _ _) (jk.mono (by
     rintro e w' hB;obtain⟨jC,X3,high,tt,gs,b',O,S,pv,ps,rfl,rest⟩:=hB;exact⟨_,rfl,jC,X3,high,tt,gs,b',O,S,pv,ps,rfl,rest⟩)) ?_
   rintro vs W3 ⟨jC,X3,high,tt,gs,b',O,S,pv,ps,hvs,h3,nU,pk,BA,T,hh⟩;cases hvs;refine fX _ _ (λe=>by simp at e) ?_;clear fX K5;refine Ji _ _ _ (by simp) (λ_ _ h=>h) ?_;simp only[wU,List.map_nil];have lW:=eX.trans (h3.zL (nU _ _ hch));have ES:W3.heap[W4.heap.size]?=_:=(eG _ lW (by omega) OY (fA.out.fr _ (.inr (.inr (.inl rfl))))).trans fA.out.c6;have E9:W3.heap[W0.heap.size]?=_:=(eG _ lW (by omega) zw5 LQ).trans PH;have PW:W3.heap[w.heap.size+1]?=_:=(eG _ lW (by omega) h1l (fA.out.fr _ (.inl (.inr (.inl rfl))))).trans ((fA.out.fx _ (.inr (.inl rfl))).trans Au.out);have zA4:Y.heap.size<=w1.heap.size:=tD.size;have zwQ:=T.gw;have zzM:Y.heap.size<=gs:=by omega
   have E6:gs<W3.heap.size:=T.sp.cB;have Ux:gs≠W4.heap.size:=by omega
   have zzN:=(QI mX pk BA zwQ T.ng).1;have tN:t.data.toList.length=t.size:=by simp
   have kR:ze (∀q,au S q=true↔∃e,ik t.data.toList t.size (ls.drop (x+1)) e/\Lg t.data.toList (pq x) q e):=λq=>by
    rw[Qw mX.inv (HQ.out x hx) T (λm hm=>by rw[tN];exact((Ic m).1 hm.2).le) q];exact exists_congr λe=>and_congr ⟨λz=>(Ic e).1 z.2,λz=>⟨by have:=z.le;omega,(Ic e).2 z⟩⟩ Iff.rfl
   have Eh:ze (∀q,ik t.data.toList t.size (ls.drop x) q↔au S q=true\/(po x=true/\q=t.size)):=λq=>by
    rw[Sg.out x hx,kR.out q];exact Iff.rfl
   -- what the round leaves,with its next ends
   have Si:ze (∀(W9:zd) (S9:Nat->Nat),ap (λk=>k=W4.heap.size\/k=gs) W3 W9->bJ W3 W9->W9.heap[W4.heap.size]?=za (zf #[zc (za ⟨gs,0,zb⟩) ne ne] 193 (0,0))->aH W9 ne gs S9->(∀q,au S9 q=true↔ik t.data.toList t.size (ls.drop x) q)->Gu WL.heap.size W W9/\(∀k∈[W5.heap.size,go],W9.heap[k]?=W.heap[k]?)/\∃(aF:Nat->Nat->Prop) (ge:Nat) (ET:Nat->Nat) (gx:Nat->Nat) (TT:Nat->Nat->Nat) (arr:Array zi),mK w0 pl Q Ow w ls t.data.toList t.size ne n W1.heap.size W4.heap.size WL.heap.size (λk=>k=w.heap.size\/k=w.heap.size+1\/k=W2.heap.size\/k=W5.heap.size) WL W9 (pre++[(⟨x,hx⟩:oL n)]).length (pre++[(⟨x,hx⟩:oL n)]).length aF ge ET gx TT arr):=by
    intro W9 S9 Qm km9 c9 p9 b9;have hHY:WL.heap.size+1<Y.heap.size:=by omega
    have qa:=fA.out.next rz.out lW Qm km9 zzM zzN hHY c9 p9 b9;have PG:(pre++[(⟨x,hx⟩:oL n)]).length=m+1:=by rw[nG,List.length_singleton,Hm.out]
    have zxb:=qa;rw[<-PG]at zxb;have k9:∀k,w.heap.size<=k->k<Y.heap.size->(∀b,¬aF k b)->k≠W4.heap.size->W9.heap[k]?=Y.heap[k]?:=λk q1 q2 q3 q4=>(Qm.same k (by have:=lW.size;omega) (by omega)).trans (eG k lW q1 q2 q3)
    have zwl:=fA.out.I4 fA.out.c6;refine⟨⟨(k9 _ (by omega) (by omega) (fA.out.fr _ (.inr (.inr (.inr (.inl rfl))))) zwl.1.symm).trans Sn.out.1,(k9 _ (by omega) hHY (fA.out.fr _ (.inr (.inr (.inr (.inr rfl))))) zwl.2.symm).trans Sn.out.2⟩,λk hk=>?_,⟨_,_,_,_,_,_,zxb⟩⟩
    ·simp at hk;rcases hk with rfl|hk
     ·obtain⟨f0,f1,f2,f3,f4⟩:=fA.out.fl _ (.inr (.inr (.inr rfl)));exact(k9 _ f0 f1 (fA.out.fr _ (.inl (.inr (.inr (.inr rfl))))) f3).trans (HT.out _ (by simp))
     ·rw[hk,ZJ.out _ _ qa.pt.inv,<-HT.out go (by simp),ZJ.out _ _ fA.out.pt.inv]
   have k1:=(qm T.box).2.1;have k6:W3.cell? ⟨W4.heap.size,0,zb⟩=za (zc (za ⟨ge,0,zb⟩) ne ne):=(aM _ _ _ _ _ _ ES:_=_);have f6:=cT _ _ 0 _ _ ES;have Pm:=dE W3 W4.heap.size 0 _ _ (zc (za ⟨gs,0,zb⟩) ne ne) ES;obtain⟨Z,hZ⟩:∃Z,W3.setCell ⟨W4.heap.size,0,zb⟩ (zc (za ⟨gs,0,zb⟩) ne ne)=Z:=⟨_,rfl⟩;rw[hZ]at Pm;have Ik:∀k,k≠W4.heap.size->Z.heap[k]?=W3.heap[k]?:=λk e=>by rw[<-hZ];exact cH _ _ _ _ (show k≠W4.heap.size from e)
   have tcZ:ap (λk=>k=W4.heap.size\/k=gs) W3 Z:=⟨by rw[<-hZ];rfl,by rw[<-hZ];rfl,by rw[<-hZ];rfl,by rw[<-hZ];simp,λk _ e=>Ik k (λe2=>e (.inl e2))⟩;have kmZ:bJ W3 Z:=λmg f e=>(Ik mg (λe2=>by rw[e2,ES]at e;exact absurd (bL e) (by decide))).trans e
   have pZ:aH Z ne gs S:=⟨(Ik gs Ux).trans T.sp.row,T.sp.lt⟩;have z1:=(jr ((Ik _ (λe=>by rw[e,ES]at E9;exact absurd (bL E9) (by decide))).trans E9)).2;have zt:Z.cell? ⟨w.heap.size+1,0,zb⟩=za (.string t):=(aM _ _ _ _ _ _ ((Ik _ (λe=>by rw[e,ES]at PW;exact absurd (bL PW) (by decide))).trans PW):_=_);have z6:Z.cell? ⟨W4.heap.size,0,zb⟩=za (zc (za ⟨gs,0,zb⟩) ne ne):=(aM _ _ _ _ _ _ Pm:_=_);have Sa:=aA Pm;have zvS:=aA tcZ;have ZQ:=aA kmZ;have Ko:=aA pZ;clear jk mX hch tD hE1 zwq CS Ic T h3 nU pk BA hh lW ES E9 PW Ik tcZ kmZ pZ Pm eG vD H6 H1 Vf zz3 eX fA kR LQ PH;go_wp2;rw[vl];clear hZ k1 k6 f6;obtain⟨ob,uR⟩:∃ob,ze (po x=ob):=⟨_,rfl⟩;rw[uR.out]at z1;cases ob with
   |false=>
    have HF:=aA (Si.out Z S zvS.out ZQ.out Sa.out Ko.out (λq=>by rw[Eh.out q,uR.out];simp));clear Si
    gi_wp2
    exact HF.out
   |true=>
    have lX:=Gi ne gs ne S t.size Z Ko.out.row lG (by omega) Ko.out.lt
    gi_wp2_with (refine⟨trivial,?_⟩;gi_at_call 146;refine(CallsIn.inRound l (callsIn_wide.2 lX)).mono ?_;rintro e9 W9 ⟨rfl,hr9,Bi⟩)
    have Qm:ap (λk=>k=W4.heap.size\/k=gs) W3 W9:=zvS.out.grown Bi (λk e=>by cases e;exact .inl (.inr rfl));exact Si.out W9 (kS S t.size) Qm (ZQ.out.trans λmg f e=>(Bi.block mg (ah.1 e).1 (λe2=>by cases e2;rw[Ko.out.row]at e;exact absurd (bL e) (by decide))).trans e) ((Bi.block _ (ah.1 Sa.out).1 (λe=>by cases e;exact Ux rfl)).trans Sa.out) ⟨hr9,JH S Ko.out.lt _⟩ (λq=>by
     rw[Eh.out q,Jv,sK,uR.out];simp)
end
section
attribute [local go_sem ↓] wp_at_zero wp_at_succ
section
variable {p:Pt}
def JQ:List fW->Prop
 |[]=>True
 |(_,o)::ls=>(o=true->∀(u:aJ) (N:Nat),N<=u.length->ik u N ls N)/\JQ ls
theorem zmy{u:aJ}{N:Nat}(hN:N<=u.length):∀(ls:List fW) (m:Nat),JQ ls->ik u N ls m->∀k,k<=ls.length->∃m',ik u N (ls.drop k) m'
 |ls,m,_,h,0,_=>⟨m,h⟩
 |[],m,_,h,k+1,hk=>by simp at hk
 |(q,o)::ls,m,ho,h,k+1,hk=>by
  have:∃e,ik u N ls e:=by
   rcases h with ⟨e,h1,_⟩|⟨h1,_⟩
   ·exact⟨e,h1⟩
   ·exact⟨N,ho.1 h1 u N hN⟩
  obtain⟨e,he⟩:=this;exact zmy hN ls e ho.2 he k (by simpa using hk)
theorem zgQ:∀(qs:List Pt),JQ (ua qs)
 |[]=>trivial
 |_::qs=>⟨λe=>(by cases e),zgQ qs⟩
theorem zkb(b:Pt):∀(mn:Nat) (mx:Int),(mx=-1\/(mn:Int)<=mx)->JQ (gM b mn mx)
 |mn+1,mx,h=>by
  rw[XL b mn mx (by omega)];exact⟨λe=>(by cases e),zkb b mn (sG mx) (by unfold sG;split<;>omega)⟩
 |0,mx,h=>by
  rcases h with rfl|h
  ·rw[XK];exact⟨λe=>(by cases e),trivial⟩
  ·obtain⟨k,rfl⟩:∃k:Nat,mx=k:=⟨mx.toNat,by omega⟩;clear h
   induction k with
   |zero=>show JQ (gM b 0 0);rw[Xv];trivial
   |succ k ih=>
    rw[Yb];refine⟨λ_ u N hN=>?_,ih⟩;rw[Gl hN 0 (k:Int) (.inr (by omega))];exact Nw hN _ (.inr (by omega))
theorem zqP(ho:oT p)(h1:∀l r,p≠.aN l r)(h2:∀b g,p≠.aT b g)(h0:∀f,p≠.set f){u:aJ}{N m:Nat}(hN:N<=u.length):JQ (mF p)/\(ik u N (mF p) m↔Lg u p m N):=by
 cases p with
 |set f=>exact absurd rfl (h0 f)
 |aN l r=>exact absurd rfl (h1 l r)
 |aT b g=>exact absurd rfl (h2 b g)
 |seq l r=>exact⟨zgQ _,NE (.seq l r) m⟩
 |az b mn mx=>
  obtain⟨_,h3,h4⟩:=ho;have e:((mn.toNat:Nat):Int)=mn:=by omega
  refine⟨zkb b mn.toNat mx (by omega),?_⟩;have:=Gl (u:=u) hN (b:=b) mn.toNat mx (by omega) m;rw[e]at this;exact this
theorem zm7(h1:∀l r,p≠.aN l r)(h2:∀b g,p≠.aT b g)(h3:∀b,p≠.az b 0 (-1))(h0:∀f,p≠.set f){u:aJ}{i N:Nat}{L:Laid}(h:jx u N (mF p) i L):yR u i N p L:=by
 cases p with
 |set f=>exact absurd rfl (h0 f)
 |aN l r=>exact absurd rfl (h1 l r)
 |aT b g=>exact absurd rfl (h2 b g)
 |seq l r=>exact h
 |az b mn mx=>
  show if mn=0/\mx=-1 then nO u N b i L else jx u N (gM b mn.toNat mx) i L
  rw[ak (λe=>by obtain⟨rfl,rfl⟩:=e;exact h3 b rfl)];exact h
theorem zne(xs:Array zi)(w:zd):(callFunc 229 xs).run prog w=.ok (.enter 229 xs) w:=by kernel_rfl
theorem zkV{w0:zd}{pl:Nat}{Q:Nat->Option Pt}{Ow:Nat->Nat->Prop}(w:zd)(h:cF w0 pl Q Ow w)(lo go cap:Nat)(p:Pt)(xs:List (Nat×fW))(hr:w0.ownsRow lo 299 2 (zc (za ⟨go,0,zb⟩) xs.length cap) xs.length (gJ xs))(hf:xs.map Prod.snd=mF p)(h1:∀l r,p≠.aN l r)(h2:∀b g,p≠.aT b g)(h3:∀b,p≠.az b 0 (-1))(hp:∀x,x∈xs->dU lo w0 pl Q x.1 x.2.1)(hQ:∀x,x∈xs->Q x.1=za x.2.1)(ho:oT p)(kw:∀f,p≠.set f)(qa:xs.length<=100000)(t:ByteArray)(ht:t.size<=4096)(hL:Lg t.data.toList p 0 t.size):
  zn prog 227 #[zl #[zc (za ⟨go,0,zb⟩) xs.length cap],.string t] w λe w'=>te w0 pl Q Ow w lo t.data.toList t.size p e w':=by
 obtain⟨i0,hi,bI,aO,aQ⟩:=info_parts Tryz.zxV;have tN:t.data.toList.length=t.size:=by simp
 have PI:(mF p).length=xs.length:=by rw[<-hf];simp
 obtain⟨zxn,mZ⟩:=zqP ho h1 h2 kw (u:=t.data.toList) (N:=t.size) (m:=0) (by omega);have Vx:=mZ.2 hL;have Ff:=zmy (by omega) _ 0 zxn Vx;have hta:=λW (hI:cF w0 pl Q Ow W)=>zsm (Ow:=Ow) W hI lo go cap xs hr hQ qa t ht (λk hk=>by rw[hf];exact Ff k (by omega))
 obtain⟨n,Hn⟩:∃n,ze (xs.length=n):=⟨_,rfl⟩;obtain⟨ne,Ar⟩:∃ne,ze (t.size/64+1=ne):=⟨_,rfl⟩;have Fe:ne<=100:=by have:=Ar.out;omega
 have lG:t.size<64*ne:=by have:=Ar.out;omega
 have wz:=h.size;have Ao:ze (∀W dX,cF w0 pl Q dX W->∀i,i<n->W.cell? ⟨go,i*2,zb⟩=za (zg (za ⟨wC xs i,0,zb⟩))/\W.cell? ⟨go,i*2+1,zb⟩=za (.bool (xQ xs i))):=λW dX hI i hi=>zpr hr hI (DV (by have:=Hn.out;omega))
 have HQ:ze (∀i,i<n->Q (wC xs i)=za (tR xs i)/\dU lo w0 pl Q (wC xs i) (tR xs i)):=λi hi=>by
  have hx:=B8 (DV (xs:=xs) (i:=i) (by have:=Hn.out;omega));exact⟨hQ _ hx,hp _ hx⟩
 have Sg:ze (∀i,i<n->(xs.map Prod.snd).drop i=(tR xs i,xQ xs i)::(xs.map Prod.snd).drop (i+1)):=λi hi=>zps (by have:=Hn.out;omega)
 have xi:ze ((xs.map Prod.snd).drop n=[]):=by show _=_;rw[<-Hn.out];simp
 have lz:ze (∀L,jx t.data.toList t.size (xs.map Prod.snd) 0 L->yR t.data.toList 0 t.size p L):=λL hc=>zm7 h1 h2 h3 kw (by rw[<-hf];exact hc)
 have jU:ze (ik t.data.toList t.size (xs.map Prod.snd) 0):=by rw[hf];exact Vx
 have St:ze (∀k,k<=n->∃m,ik t.data.toList t.size ((xs.map Prod.snd).drop k) m):=λk hk=>by rw[hf];exact Ff k (by have:=Hn.out;omega)
 have af:zk w.heap.size w (w.alloc (zf #[zc (za ⟨go,0,zb⟩) xs.length cap] 305)):=aw;have x0:(w.alloc (zf #[zc (za ⟨go,0,zb⟩) xs.length cap] 305)).heap[w.heap.size]?=za (zf #[zc (za ⟨go,0,zb⟩) xs.length cap] 305 (0,0)):=aI _ _;have nJ:=aA (cY.bR h af);have Mj:=hta _ (h.below af);have fC:∀k,w.heap.size<=k->∀c,¬Ow k c:=λk hk c ho=>by have:=(h.ow _ c ho).2;omega
 rw[Hn.out]at qa af x0 nJ Mj ⊢;rw[Ar.out]at Mj;generalize xs.map Prod.snd=ls at *;generalize wC xs=pa at *;generalize xQ xs=po at *;generalize tR xs=pq at *;clear hr hQ Ff h Hn hf hp hta mZ Vx zxn h1 h2 h3 hL PI
 go_enter func227,ntmps227
 obtain⟨W0,ai⟩:∃W0,w.alloc (zf #[zc (za ⟨go,0,zb⟩) n cap] 305)=W0:=⟨_,rfl⟩;rw[ai]at x0 nJ Mj;have Th:W0.cell? ⟨w.heap.size,0,zb⟩=za (zc (za ⟨go,0,zb⟩) n cap):=(aM _ _ _ _ _ _ x0:_=_);have dD:w.heap.size<W0.heap.size:=(ah.1 x0).1;go_wp2
 go_step3
 go_wp2_with fail
 refine Mj.mono ?_;rintro e W1 ⟨dX,gt,gx,TT,rfl,tD,Bj,zwR,Uy,lH⟩;obtain⟨W2,dk⟩:∃W2,W1.alloc (zf #[] 247)=W2:=⟨_,rfl⟩;have ae:zk W1.heap.size W1 W2:=by rw[<-dk];exact aw
 have ff:W2.ownsRow w.heap.size 247 2 (zc (za ⟨W1.heap.size,0,zb⟩) 0 0) 0 []:=by rw[<-dk];exact DC _ _ 2 _ _ (by have:=tD.size;omega) rfl
 have PP:W1.heap.size<W2.heap.size:=by rw[<-dk];simp
 have lV:=(nJ.out.trans tD).below ae;have zo:=tD.eG w.heap.size wz dD (fC _ (aj _));have x2:W2.heap[w.heap.size]?=_:=(ae.block _ (by have:=tD.size;omega)).trans (zo.1.trans x0);have c2:W2.cell? ⟨w.heap.size,0,zb⟩=za (zc (za ⟨go,0,zb⟩) n cap):=(aM _ _ _ _ _ _ x2:_=_)
 -- what must stay
 obtain⟨Pr,sU⟩:∃Pr:Nat->Prop,ze (∀k,Pr k↔k=w.heap.size\/(k=gt/\0<n)\/∃j,j<n/\k=gx j):=⟨_,λ_=>Iff.rfl⟩;have GM:ze (∀k,Pr k->w.heap.size<=k/\k<W1.heap.size/\∀b,¬dX k b):=λk hk=>by
  have h01:=tD.size;rcases(sU.out k).1 hk with rfl|⟨rfl,h0⟩|⟨j,hj,rfl⟩
  ·exact⟨aj _,by omega,zo.2⟩
  ·exact⟨by omega,block_lt_of_cell (Uy 0 h0),zwR⟩
  ·obtain⟨q1,q2,q3,_⟩:=lH j hj;exact⟨by omega,q1.cB,q3⟩
 have Hgt:ze (∀W:zd,(∀k,Pr k->W.heap[k]?=W1.heap[k]?)->∀j,j<n->W.cell? ⟨gt,j,zb⟩=za (zc (za ⟨gx j,0,zb⟩) ne ne)/\aH W ne (gx j) (TT j)/\∀q,au (TT j) q=true↔ik t.data.toList t.size (ls.drop (j+1)) q):=λW hW j hj=>by
  obtain⟨q1,q2,q3,q4⟩:=lH j hj;exact⟨(World.cell?_of_block (hW gt ((sU.out _).2 (.inr (.inl ⟨rfl,by omega⟩))))).trans (Uy j hj),⟨(hW _ ((sU.out _).2 (.inr (.inr ⟨j,hj,rfl⟩)))).trans q1.row,q1.lt⟩,q4⟩
 have mI:=aA lV;have Kn:=aA ff;have yQ:ze (∀k,Pr k->W2.heap[k]?=W1.heap[k]?):=λk hk=>ae.block k (GM.out k hk).2.1
 have GR:ze (∀b,¬dX W1.heap.size b):=λb hb=>by have:=(tD.inv.ow _ b hb).2;omega
 clear Mj tD lV ff ae Bj zwR Uy lH zo x0 x2 nJ;go_wp2
 go_step3
 go_wp2;clear ai dk Th c2
 go_loopw [6,7,19] (λlv av iv wr=>∃(k fr:Nat) (ys:List ul) (vL:zi) (lB:Nat->Nat->Prop),lv=vL/\av=zj .i64 fr/\iv=zj .i64 k/\k<=n/\fr<=t.size/\ys.length<=k/\ze (cY w0 pl Q Ow w lB wr)/\ze (∀k,Pr k->wr.heap[k]?=W1.heap[k]?/\∀b,¬lB k b)/\W1.heap.size<=wr.heap.size/\ze (ik t.data.toList t.size (ls.drop k) fr)/\ze (∀L,jx t.data.toList t.size (ls.drop k) fr L->jx t.data.toList t.size ls 0 (oe ys++L))/\ze (wr.ownsRow w.heap.size 247 2 vL ys.length (mw ys))/\ze (∀k,vL.ownBlock=za k->(∀c,¬lB k c)/\W1.heap.size<=k)/\ze (∀y,y∈ys->dU lo w0 pl Q y.1 y.2.1))
  (λ_ _ iv _=>n-(intOf iv).toNat)
 case atStart=>exact⟨0,0,[],_,dX,rfl,rfl,rfl,aR _,aR _,aj _,mI,λk hk=>⟨yQ.out k hk,(GM.out k hk).2.2⟩,by omega,jU,λL hL=>hL,Kn,λk e=>by
   have e:W1.heap.size=k:=by simpa [Value.ownBlock]using e
   subst e;exact⟨GR.out,aj _⟩,λy hy=>by cases hy⟩
 case round=>
  clear mI Kn yQ GR jU;obtain⟨k,fr,ys,vL,lB,UQ,rfl,rfl,jY,zzD,Fv,HT,HS,hsz,Eh,GH,HO,pL,Cg⟩:=hrel;have UR:=UQ.symm;subst UR;have j9:=(HS.out w.heap.size ((sU.out _).2 (.inl rfl)))
  by_cases hlt:k<n
  ·have hd:decide ((k:Int)<(n:Int))=true:=by simp;omega
   obtain⟨l0,l1⟩:=Ao.out wr lB HT.out.inv k hlt;obtain⟨hQk,O6⟩:=HQ.out k hlt;have gZ:(0:Int)<=(k:Int):=by omega
   have db:(k:Int)<(n:Int):=by omega
   obtain⟨V,hV⟩:∃V,wr.alloc (zf #[zg (za ⟨pa k,0,zb⟩),.bool (po k)] 299)=V:=⟨_,rfl⟩;have gG:zk wr.heap.size wr V:=by rw[<-hV];exact aw
   have xV:V.heap[wr.heap.size]?=za (zf #[zg (za ⟨pa k,0,zb⟩),.bool (po k)] 299 (0,0)):=by rw[<-hV];exact aI _ _
   have Me:wr.heap.size<V.heap.size:=(ah.1 xV).1;have v0:=(jr xV).1;have zh:=HT.out.below gG;have R6:∀k,Pr k->V.heap[k]?=W1.heap[k]?:=λk hk=>(gG.block k (by have:=(GM.out k hk).2.1;omega)).trans (HS.out k hk).1
   obtain⟨g0,g1,g2⟩:=Hgt.out V R6 k hlt;have hPg:=(sU.out (gx k)).2 (.inr (.inr ⟨k,hlt,rfl⟩));have dC:=GM.out (gx k) hPg;obtain⟨q0,tJ⟩:=St.out (k+1) (by omega);have Uk:=Sg.out k hlt;have Vy:=Eh.out;rw[Uk]at Vy;have wo:=λnq=>zrW (V.drewN nq) (zh.inv.below ⟨rfl,rfl,rfl,aj _,λ_ _=>rfl⟩) hQk t ht ne (gx k) ne fr (TT k) ⟨g1.row,g1.lt⟩ Fe (by omega) (HS.out _ hPg).2 ⟨q0,by have:=tJ.le;omega,(g2 q0).2 tJ⟩ (λq _ hb=>((g2 q).1 hb).le) zzD (by omega) (by
    rcases Vy with ⟨e,e1,e2⟩|⟨_,e⟩
    ·exact .inl ⟨e,by have:=e1.le;omega,(g2 e).2 e1,e2⟩
    ·exact .inr e)
   have hcc:zn prog 229 #[zg (za ⟨pa k,0,zb⟩),.string t,zj .i64 fr,zc (za ⟨gx k,0,zb⟩) ne ne] V.drew λe w'=>∃v,e=.returned v/\∃(aF:Nat->Nat->Prop) (cI:Nat) (ok:Bool),v=.tuple #[zj .i64 cI,.bool ok]/\OB t.data.toList (pq k) (λq=>q<64*ne/\au (TT k) q=true) fr cI ok/\cY w0 pl Q lB V aF w':=(wo 1).mono λe w' ⟨aF,cI,ok,e1,e2,e3⟩=>⟨_,e1,aF,cI,ok,rfl,e2,(cY.bR zh.inv (Below.refl V.heap.size V).drew).trans (e3:cY w0 pl Q lB V.drew aF w')⟩
   have Sj:=aA g2;have ZC:=aA Uk;have sY:=aA zh;have Av:=aA xV;clear wo g1 g2 zh xV Uk Vy dC
   go_upto_region 7 with fail
   clear hV
   go_region_law ((refine BK (by rfl) 229 #[.tmp 26,.tmp 27,.tmp 28,.tmp 32] #[198,9,3,193] (by rfl) #[zg (za ⟨pa k,0,zb⟩),.string t,zj .i64 fr,zc (za ⟨gx k,0,zb⟩) ne ne] (by simp[Act.eval]) _ (zne _ _) hcc ?_;rintro v2 W3 ⟨jC,cI,ok,rfl,hR,EO⟩;clear hcc))
   all_goals (
    have nK:=aA (sY.out.trans EO);have sW:ze (∀k,Pr k->W3.heap[k]?=W1.heap[k]?/\∀b,¬jC k b):=λk hk=>by
     have:=GM.out k hk;obtain⟨f1,f2⟩:=EO.eG k (by omega) (by omega) (HS.out k hk).2;exact⟨f1.trans (R6 k hk),f2⟩
    have LQ:∀b,¬lB wr.heap.size b:=λb hb=>by have:=(HT.out.inv.ow _ b hb).2;omega
    have jo:=HT.out.size;have E9:=(EO.eG wr.heap.size (by omega) Me LQ).1.trans Av.out;have y0:=(jr E9).1;have l9:W1.heap.size<=W3.heap.size:=by have:=EO.size;omega
    have GL:ze (W3.ownsRow w.heap.size 247 2 vL ys.length (mw ys)):=gR HO.out λk e=>by
     obtain⟨e3,ax,e4⟩:=dy HO.out e;have LM:=(ah.1 e4).1;exact(EO.eG k (by omega) (by omega) (pL.out k e).1).1.trans (gG.block k LM)
    have Cn:ze (∀k,vL.ownBlock=za k->w.heap.size<=k/\(∀c,¬jC k c)/\W1.heap.size<=k/\∃ax,W3.heap[k]?=za (zf ax 247 (0,0))):=λk e=>by
     obtain⟨e3,ax,e4⟩:=dy HO.out e;have LM:=(ah.1 e4).1;obtain⟨f1,f2⟩:=EO.eG k (by omega) (by omega) (pL.out k e).1;exact⟨e3,f2,(pL.out k e).2,ax,f1.trans ((gG.block k LM).trans e4)⟩
    have HR:=aA hR;clear hR EO R6 v0 gG E9 HT HS HO pL sY Av g0 l0 l1;cases ok with
    |false=>
     have HF:ze (te w0 pl Q Ow w lo t.data.toList t.size p (.returned vL) W3):=by
      refine⟨jC,ys,vL,rfl,nK.out,GL.out,λk e=>(Cn.out k e).2.1,lz.out _ ?_,Cg.out⟩;have:=GH.out [] (by
       rw[ZC.out];refine .stop _ _ _ _ λe he hl=>?_
       rcases HR.out with ⟨e1,_⟩|⟨_,e1⟩
       ·cases e1
       ·exact e1 e ⟨by have:=he.le;omega,(Sj.out e).2 he⟩ hl)
      rw[ud]at this;exact this
     clear HR nK sW GL Cn GH Eh;go_wp2;go_ret;exact HF.out
    |true=>
     have uT:(cI<64*ne/\au (TT k) cI=true)/\Lg t.data.toList (pq k) fr cI/\∀x,(x<64*ne/\au (TT k) x=true)->Lg t.data.toList (pq k) fr x->x<=cI:=by
      rcases HR.out with ⟨_,e1⟩|⟨e1,_⟩
      ·exact e1
      ·cases e1
     have PU:=(Sj.out cI).1 uT.1.2;have pV:=PU.le;have zyi:ze (∀L,jx t.data.toList t.size (ls.drop (k+1)) cI L->jx t.data.toList t.size ls 0 (oe (ys++[(pa k,pq k,cI)])++L)):=λL hL=>by
      have:=GH.out ((pq k,cI)::L) (by
       rw[ZC.out];exact .cons _ _ _ _ _ _ ⟨uT.2.1.1,pV,⟨uT.2.1,PU⟩,λm h1 h2 h3=>by have:=uT.2.2 m ⟨by omega,(Sj.out m).2 h3.2⟩ h3.1;omega⟩ hL)
      simpa [oe]using this
     have HTe:=aA PU;have kH:=GL.out;have iu:ys.length<=2000000:=by omega
     have iU:w.heap.size<=W3.heap.size:=nK.out.size;obtain⟨va,vn,vc,VB⟩:∃(va:Option Addr) (vn vc:Nat),vL=.slice va vn vc:=by
      rcases kH.2 with ⟨e,_⟩|⟨g,c,_,e,_⟩
      ·exact⟨_,_,_,e⟩
      ·exact⟨_,_,_,e⟩
     subst VB;clear HR uT PU Eh GH GL
     go_wp2_with (at_builtin;refine wM rfl (.tmp 38) (.tmp 43) 244 rfl W3 #[zg (za ⟨pa k,0,zb⟩),zj .i64 (cI:Int)] 247 rfl W3.heap.size rfl w.heap.size i0 _ 2 16 underlying244 hi bI aO aQ rfl (by omega) (.slice va vn vc) ys.length (mw ys) rfl kH rfl rfl (by intro u hu;simp at hu;rcases hu with rfl|rfl<;>rfl) iu (by omega) iU ?_;intro g7 bG W7 fh er iI)
     have qi:ap (λk=>(Value.slice va vn vc).ownBlock=za k) W3 W7:=(ap.refl _ W3).grown er (λk e=>.inl e);have km7:bJ W3 W7:=λmg f e=>(qi.same mg (ah.1 e).1 (λe2=>by
      obtain⟨_,_,_,ax,h5⟩:=Cn.out mg e2;rw[h5]at e;exact absurd (bL e) (by decide))).trans e
     have HT7:=aA (nK.out.free qi km7 (λk e=>⟨by have:=(Cn.out k e).1;omega,(Cn.out k e).2.1,(Cn.out k e).1⟩));have R4:ze (∀k,Pr k->W7.heap[k]?=W1.heap[k]?/\∀b,¬jC k b):=λk hk=>by
      have:=GM.out k hk;exact⟨(qi.same k (by omega) (λe=>by have:=(Cn.out k e).2.2.1;omega)).trans (sW.out k hk).1,(sW.out k hk).2⟩
     have Bw:W1.heap.size<=W7.heap.size:=aW l9 qi.size
     go_roundw
     case rel=>exact⟨k+1,cI,ys++[(pa k,pq k,cI)],_,jC,rfl,rfl,by go_num,by omega,pV,by simp;omega,HT7,R4,Bw,HTe,zyi,by show World.ownsRow _ _ _ _ _ _ _;rw[nG,Xk];exact fh,λk e=>by
       have e:g7=k:=by simpa [Value.ownBlock]using e
       subst e;rcases iI with f|f
       ·obtain⟨z1,z2,z3,_⟩:=Cn.out g7 f;exact⟨z2,z3⟩
       ·exact⟨λc hc=>by have:=(nK.out.inv.ow _ c hc).2;omega,by omega⟩,λy hy=>by
       rcases fm.1 hy with hy|hy
       ·exact Cg.out y hy
       ·rw[eK.1 hy];exact O6⟩
     case measure=>simp[intOf];omega)
  ·obtain rfl:k=n:=by omega
   have hd:decide ((k:Int)<(k:Int))=false:=by simp
   have HF:ze (te w0 pl Q Ow w lo t.data.toList t.size p (.returned vL) wr):=by
    refine⟨lB,ys,vL,rfl,HT.out,HO.out,λk e=>(pL.out k e).1,lz.out _ ?_,Cg.out⟩;have:=GH.out [] (by rw[xi.out];exact .nil _);rw[ud]at this;exact this
   clear HT HS HO pL Cg Eh GH;go_wp2;go_ret;exact HF.out
end
section
variable {w w0:zd}{pl:Nat}{Q:Nat -> Option Pt}{Ow:Nat -> Nat -> Prop}
theorem QE:∀(p:Pt) (v:zi),aU w v p->aE p<=2000->((dA p).length:Int)<=aE p
 |.set _,_,_,_=>by simp[dA,aE]
 |.seq l r,v,h,_=>by have:=(iP (.seq l r) v h).1;simp[dA];omega
 |.az b mn mx,v,h,_=>by have:=(iP (.az b mn mx) v h).1;simp[dA];omega
 |.aT b g,v,h,_=>by have:=(iP (.aT b g) v h).1;simp[dA];omega
 |.aN l r,v,⟨lv,rv,h1,h2,h3⟩,hw=>by
  have hk:=Nu (v:=v) (.inr ⟨lv,rv,h1,h2,h3⟩) hw;have i1:=QE l lv h2 hk.1;have i2:=QE r rv h3 hk.2;have:aE (.aN l r)=aE l+aE r:=by
   show cM _=_;have hw:cM (aE l+aE r)<=2000:=hw;unfold cM at hw ⊢;split
   ·rfl
   ·rename_i e;rw[ak e]at hw;omega
  rw[this];simp[dA];omega
theorem Ng:∀(p:Pt),0<(dA p).length
 |.set _=>by simp[dA]
 |.seq _ _=>by simp[dA]
 |.az _ _ _=>by simp[dA]
 |.aT _ _=>by simp[dA]
 |.aN l r=>by have:=Ng l;simp[dA];omega
theorem zjE:∀(p:Pt) (v:zi),aU w v p->aE p<=2000->((jO p).length:Int)<=aE p
 |.set _,_,_,_=>by simp[jO,aE]
 |.aN l r,v,h,_=>by have:=(iP (.aN l r) v h).1;simp[jO];omega
 |.az b mn mx,v,h,_=>by have:=(iP (.az b mn mx) v h).1;simp[jO];omega
 |.aT b g,v,h,_=>by have:=(iP (.aT b g) v h).1;simp[jO];omega
 |.seq l r,v,⟨lv,rv,h1,h2,h3⟩,hw=>by
  have hk:=Nu (v:=v) (.inl ⟨lv,rv,h1,h2,h3⟩) hw;have i1:=(iP l lv h2).1;have i2:=zjE r rv h3 hk.2;have:aE (.seq l r)=aE l+aE r:=by
   show cM _=_;have hw:cM (aE l+aE r)<=2000:=hw;unfold cM at hw ⊢;split
   ·rfl
   ·rename_i e;rw[ak e]at hw;omega
  rw[this];simp[jO];omega
theorem zjU(p:Pt)(v:zi)(h:aU w v p)(hw:aE p<=2000):(mF p).length<=2000:=by
 cases p with
 |set f=>simp[mF]
 |aN l r=>simp[mF]
 |aT b g=>simp[mF]
 |seq l r=>have:=zjE (.seq l r) v h hw;simp[mF,ua];omega
 |az b mn mx=>
  obtain⟨_,_,_,hb⟩:=h;simp[fj]at hb;simp only[mF,gM,nG,List.length_replicate];split<;>simp<;>omega
def zvU(w0:zd)(pl:Nat)(Q:Nat->Option Pt)(Ow:Nat->Nat->Prop)(w:zd)(lo:Nat)(u:aJ)(n:Nat)(p:Pt)(e:Ending)(w':zd):Prop:=
 (lK p/\e=.returned (zc zb 0 0)/\w'=w)\/((∀f,p≠.set f)/\te w0 pl Q Ow w lo u n p e w')
theorem cF.form(h:cF w0 pl Q Ow w){lo a:Nat}{p:Pt}{f:zi}(hb:tf lo w0 pl Q a p f):w.cell? ⟨a,2,zb⟩=za f/\∃v,aU w0 v p/\aE p<=2000:=by
 obtain⟨v,f',k,h1,h2,h3,h4,_⟩:=h.pc a p hb.q;obtain⟨v',h5,h6⟩:=hb.box;rw[h1]at h5;have e:f'=f:=by injection h5 with h5;injection h5 with h5;simp at h5;exact h5.2
 subst e;exact⟨(aM _ _ _ _ _ _ h2:_=_),v,h3,h4⟩
theorem dU.q{lo:Nat}{a:Nat}{p:Pt}(h:dU lo w pl Q a p):Q a=za p:=by
 obtain⟨f,h1,_⟩:=h.KH;exact h1.q
theorem Rj{P:Program}{o:Oper}{a:Act}{K:Act->zd->Prop}{Q:Exit->Act->zd->Prop}{r:Result Next}(r':Result Next)(e:r=r')(h:Oper.upon P o a K Q r'):Oper.upon P o a K Q r:=e ▸ h
theorem zlv(w:zd)(h:cF w0 pl Q Ow w)(lo a:Nat)(p:Pt)(hp:dU lo w0 pl Q a p)(t:ByteArray)(ht:t.size<=4096)(hL:Lg t.data.toList p 0 t.size):
  zn prog 151 #[zg (za ⟨a,0,zb⟩),.string t] w λe w'=>zvU w0 pl Q Ow w lo t.data.toList t.size p e w':=by
 have ho:=h.MK hp.q;cases hp with
 |leaf _ _ hb hn=>
  obtain⟨c2,-⟩:=h.form hb;have Hn:=aA hn;clear hb hn h ho hL
  go_enter func151,ntmps151
  go_wp2;go_ret;exact .inl ⟨Hn.out,rfl,rfl⟩
 |group _ a' b g hb hk=>
  obtain⟨c2,-⟩:=h.form hb;have hc:=zk9 w h lo a' b g hk t;clear hb h ho hL hk
  go_enter func151,ntmps151
  go_wp2_with fail
  refine Rj (.ok (.enter 220 #[zl #[zj .i64 g,zg (za ⟨a',0,zb⟩)],.string t]) w) (by kernel_rfl) ?_;rw[Oper.upon_enter];refine hc.mono ?_;rintro e w' ⟨aF,ys,v,rfl,hT⟩;have HF:ze (te w0 pl Q Ow w lo t.data.toList t.size (.aT b g) (.returned v) w'):=⟨aF,ys,v,rfl,hT⟩;clear hc hT;go_wp2;go_ret;exact .inr ⟨λf e=>(by cases e),HF.out⟩
 |choice _ l r go cap xs hb hr hf hk=>
  obtain⟨c2,v,hv,hw⟩:=h.form hb;have hl:=QE _ v hv hw;have ia:(dA (.aN l r)).length=xs.length:=by rw[<-hf];simp
  have eZ:0<(dA (.aN l r)).length:=Ng _;have hc:=zjr w h lo go cap l r xs hr hf hk (λx hx=>(hk x hx).q) t ht hL (by omega) (by omega);clear hb h ho hL hk hr hf hv hw hl ia eZ
  go_enter func151,ntmps151
  go_wp2_with fail
  refine Rj (.ok (.enter 233 #[zl #[zc (za ⟨go,0,zb⟩) xs.length cap],.string t]) w) (by kernel_rfl) ?_;rw[Oper.upon_enter];refine hc.mono ?_;rintro e w' ⟨aF,ys,v,rfl,hT⟩;have HF:ze (te w0 pl Q Ow w lo t.data.toList t.size (.aN l r) (.returned v) w'):=⟨aF,ys,v,rfl,hT⟩;clear hc hT;go_wp2;go_ret;exact .inr ⟨λf e=>(by cases e),HF.out⟩
 |chain _ _ go cap xs hb hr hf h1 h2 h3 h0 hk=>
  obtain⟨c2,v,hv,hw⟩:=h.form hb;have hl:=zjU _ v hv hw;have ia:(mF p).length=xs.length:=by rw[<-hf];simp
  have hc:=zkV w h lo go cap p xs hr hf h1 h2 h3 hk (λx hx=>(hk x hx).q) ho h0 (by omega) t ht hL;have hs:=h0;clear hb h ho hL hk hr hf hv hw hl ia h1 h2 h3
  go_enter func151,ntmps151
  go_wp2_with fail
  refine Rj (.ok (.enter 227 #[zl #[zc (za ⟨go,0,zb⟩) xs.length cap],.string t]) w) (by kernel_rfl) ?_;rw[Oper.upon_enter];refine hc.mono ?_;rintro e w' ⟨aF,ys,v,rfl,hT⟩;have HF:ze (te w0 pl Q Ow w lo t.data.toList t.size p (.returned v) w'):=⟨aF,ys,v,rfl,hT⟩;clear hc hT;go_wp2;go_ret;exact .inr ⟨hs,HF.out⟩
 |rounds _ a' b hb hk=>
  obtain⟨c2,-⟩:=h.form hb;have hc:=zki w h lo a a' b hb.q hk.q hk t ht hL;clear hb h ho hL hk
  go_enter func151,ntmps151
  go_wp2_with fail
  refine Rj (.ok (.enter 234 #[zl #[zg (za ⟨a,0,zb⟩),zg (za ⟨a',0,zb⟩)],.string t]) w) (by kernel_rfl) ?_;rw[Oper.upon_enter];refine hc.mono ?_;rintro e w' ⟨aF,ys,v,rfl,hT⟩;have HF:ze (te w0 pl Q Ow w lo t.data.toList t.size (.az b 0 (-1)) (.returned v) w'):=⟨aF,ys,v,rfl,hT⟩;clear hc hT;go_wp2;go_ret;exact .inr ⟨λf e=>(by cases e),HF.out⟩
end
def mz:Pt->Nat
 |.az b mn mx=>2*(fI b+1)+(if mn=0/\mx=-1 then 0 else 1)
 |p=>2*fI p+1
theorem ztZ(p:Pt):2*fI p<=mz p/\mz p<=2*fI p+1:=by
 cases p with
 |az b mn mx=>simp only[mz,fI];split<;>omega
 |_=>simp[mz]
theorem sH{p q:Pt}(h:fI q<fI p):mz q<mz p:=by have:=ztZ p;have:=ztZ q;omega
theorem Jz:∀(p q:Pt),q∈dA p->fI q<=fI p
 |.aN l r,q,h=>by
  rcases fm.1 (show q∈dA l++dA r from h) with h|h
  ·have:=Jz l q h;simp[fI];omega
  ·have:=Jz r q h;simp[fI];omega
 |.set _,q,h=>by rw[eK.1 (show q∈[_] from h)];exact aj _
 |.seq _ _,q,h=>by rw[eK.1 (show q∈[_] from h)];exact aj _
 |.az _ _ _,q,h=>by rw[eK.1 (show q∈[_] from h)];exact aj _
 |.aT _ _,q,h=>by rw[eK.1 (show q∈[_] from h)];exact aj _
theorem zmd:∀(p q:Pt),q∈jO p->fI q<=fI p
 |.seq l r,q,h=>by
  rcases pI.1 (show q∈l::jO r from h) with h|h
  ·subst h;simp[fI];omega
  ·have:=zmd r q h;simp[fI];omega
 |.set _,q,h=>by rw[eK.1 (show q∈[_] from h)];exact aj _
 |.aN _ _,q,h=>by rw[eK.1 (show q∈[_] from h)];exact aj _
 |.az _ _ _,q,h=>by rw[eK.1 (show q∈[_] from h)];exact aj _
 |.aT _ _,q,h=>by rw[eK.1 (show q∈[_] from h)];exact aj _
theorem zr6{b q:Pt}{mn:Nat}{mx:Int}{o:Bool}(h:(q,o)∈gM b mn mx):q=b\/(mx=-1/\q=.az b 0 (-1)):=by
 unfold gM at h;rcases fm.1 h with h|h
 ·have:=(List.mem_replicate.1 h).2;injection this with h1;exact .inl h1
 ·rcases fm.1 h with h|h
  ·have:=(List.mem_replicate.1 h).2;injection this with h1;exact .inl h1
  ·by_cases e:mx=-1
   ·rw[aC e]at h;have:=eK.1 h;injection this with h1;exact .inr ⟨e,h1⟩
   ·rw[ak e]at h;cases h
theorem zmp{p q:Pt}{o:Bool}(h3:∀b,p≠.az b 0 (-1))(h:(q,o)∈mF p):mz q<mz p:=by
 cases p with
 |set f=>cases h
 |aN l r=>cases h
 |aT b g=>cases h
 |seq l r=>
  obtain⟨x,h1,h2⟩:=rh.1 (show (q,o)∈(jO (.seq l r)).map λq=>(q,false) from h);injection h2 with h2
  subst h2;rcases pI.1 (show x∈l::jO r from h1) with e|e
  ·subst e;exact sH (by simp[fI];omega)
  ·have:=zmd r x e;exact sH (by simp[fI];omega)
 |az b mn mx=>
  rcases zr6 (show (q,o)∈gM b mn.toNat mx from h) with rfl|⟨rfl,rfl⟩
  ·exact sH (by simp[fI])
  ·have:¬mn=0:=λe=>h3 b (by rw[e])
   simp[mz,this]
theorem zox{u:aJ}{n:Nat}{ls:List fW}{i:Nat}{L:Laid}(h:jx u n ls i L):∀x,x∈L->∃o,(x.1,o)∈ls:=by
 induction h with
 |nil i=>intro x hx;cases hx
 |stop q o ls i h=>intro x hx;cases hx
 |cons q o ls i e L g _ ih=>
  intro x hx;rcases pI.1 hx with rfl|hx
  ·exact⟨o,B7 ..⟩
  ·obtain⟨o',h1⟩:=ih x hx;exact⟨o',yC _ h1⟩
theorem ztu{u:aJ}{n:Nat}{b:Pt}{i:Nat}{L:Laid}(h:nO u n b i L):∀x,x∈L->x.1=b:=by
 induction h with
 |done=>intro x hx;cases hx
 |more i e L hi g _ ih=>
  intro x hx;rcases pI.1 hx with rfl|hx
  ·rfl
  ·exact ih x hx
theorem zs9{u:aJ}{i n:Nat}:∀(p:Pt) (L:Laid),yR u i n p L->∀x,x∈L->mz x.1<mz p
 |.set _,L,h,x,hx=>by have h:L=[]:=h;subst h;cases hx
 |.aT b g,L,h,x,hx=>by
  have h:L=[(b,n)]:=h;subst h;rw[eK.1 hx];exact sH (by simp[fI])
 |.aN p q,L,⟨k,y,h1,_,_,h4⟩,x,hx=>by
  subst h4;rw[eK.1 hx];rcases fm.1 (show y∈dA p++dA q from B8 h1) with h|h
  ·have:=Jz p y h;exact sH (by simp[fI];omega)
  ·have:=Jz q y h;exact sH (by simp[fI];omega)
 |.seq p q,L,h,x,hx=>by
  obtain⟨o,h1⟩:=zox (show jx u n (ua (jO (.seq p q))) i L from h) x hx;exact zmp (p:=.seq p q) (λb e=>(by cases e)) h1
 |.az b mn mx,L,h,x,hx=>by
  replace h:if mn=0/\mx=-1 then nO u n b i L else jx u n (gM b mn.toNat mx) i L:=h
  by_cases e:mn=0/\mx=-1
  ·rw[aC e]at h;rw[ztu h x hx];exact sH (by simp[fI])
  ·rw[ak e]at h;obtain⟨o,h1⟩:=zox h x hx;exact zmp (p:=.az b mn mx) (λb' e2=>by injection e2 with _ e3 e4;exact e ⟨e3,e4⟩) h1
theorem zmn{u:aJ}{j:Nat}:∀(L:Laid) (i:Nat),yS u j L i->(∀x,x∈L->oT x.1)->∃l,rD u L i l
 |[],i,_,_=>⟨[],.nil i⟩
 |(q,e)::L,i,⟨h1,_,h3⟩,ho=>by
  obtain⟨l1,k1⟩:=ym q (ho _ (B7 ..)) i e h1;obtain⟨l2,k2⟩:=zmn L e h3 (λx hx=>ho x (yC _ hx));exact⟨l1++l2,.cons q e L i l1 l2 k1 k2⟩
theorem zjJ{p:Pt}(h:lK p)(i j:Nat):sF p i j=[]:=by
 cases p with
 |aT b g=>exact h.elim
 |_=>rfl
structure oW(w0:zd)(pl:Nat)(Q:Nat->Option Pt)(bs bt bp gs m cap:Nat)(t:ByteArray)(Ow:Nat->Nat->Prop)(w:zd)(sp:List (Int×Int)):Prop where
 inv:cF w0 pl Q Ow w
 xs:w.heap[bs]?=za (zf #[zc (za ⟨gs,0,zb⟩) m cap] 33 (0,0))
 xt:w.heap[bt]?=za (zf #[.string t] 9 (0,0))
 xp:w.heap[bp]?=za (zf #[.func (.func 150) #[] #[zg (za ⟨bs,0,zb⟩),zg (za ⟨bt,0,zb⟩),zg (za ⟨bp,0,zb⟩)]] 205 (0,0))
 row:w.ownsRow w0.heap.size 71 2 (zc (za ⟨gs,0,zb⟩) m cap) m (pv sp)
 len:sp.length=m
 fs:w0.heap.size<=bs/\∀b,¬Ow bs b
 ft:w0.heap.size<=bt/\∀b,¬Ow bt b
 fp:w0.heap.size<=bp/\∀b,¬Ow bp b
 fg:w0.heap.size<=gs/\∀b,¬Ow gs b
structure Ay(w0:zd)(gs:Nat)(Ow:Nat->Nat->Prop)(w:zd)(aF:Nat->Nat->Prop)(w':zd):Prop where
 size:w.heap.size<=w'.heap.size
 eG:∀k,w0.heap.size<=k->k<w.heap.size->k≠gs->(∀b,¬Ow k b)->w'.heap[k]?=w.heap[k]?/\∀b,¬aF k b
 km:bJ w w'
theorem Ay.trans{w0:zd}{gs:Nat}{Ow dX nM:Nat->Nat->Prop}{w w1 w2:zd}(h:Ay w0 gs Ow w dX w1)(k:Ay w0 gs dX w1 nM w2):Ay w0 gs Ow w nM w2:=
 ⟨aW h.size k.size,λj h1 h2 h3 h4=>by
  obtain⟨e1,f1⟩:=h.eG j h1 h2 h3 h4;obtain⟨e2,f2⟩:=k.eG j h1 (bA h2 h.size) h3 f1;exact⟨e2.trans e1,f2⟩,h.km.trans k.km⟩
section
variable {w0:zd} {pl:Nat} {Q:Nat->Option Pt} {bs bt bp gs m cap:Nat} {t:ByteArray} {Ow aF:Nat->Nat->Prop} {w w':zd} {sp:List (Int×Int)}
theorem oW.cB(h:oW w0 pl Q bs bt bp gs m cap t Ow w sp):gs<w.heap.size:=by
 rcases h.row.2 with ⟨e,_⟩|⟨g,c,ax,e,_,h2,_⟩
 ·cases e
 ·cases e;exact(ah.1 h2).1
theorem oW.We(h:oW w0 pl Q bs bt bp gs m cap t Ow w sp)(k:cY w0 pl Q Ow w aF w'):oW w0 pl Q bs bt bp gs m cap t aF w' sp/\Ay w0 gs Ow w aF w':=by
 have ls:=(ah.1 h.xs).1;have lt:=(ah.1 h.xt).1;have lp:=(ah.1 h.xp).1;obtain⟨s1,s2⟩:=k.eG bs h.fs.1 ls h.fs.2;obtain⟨t1,t2⟩:=k.eG bt h.ft.1 lt h.ft.2;obtain⟨p1,p2⟩:=k.eG bp h.fp.1 lp h.fp.2;obtain⟨g1,g2⟩:=k.eG gs h.fg.1 h.cB h.fg.2;exact⟨⟨k.inv,s1.trans h.xs,t1.trans h.xt,p1.trans h.xp,gR h.row (λb e=>by
  have e:gs=b:=by simpa [Value.ownBlock]using e
  subst e;exact g1),h.len,⟨h.fs.1,s2⟩,⟨h.ft.1,t2⟩,⟨h.fp.1,p2⟩,⟨h.fg.1,g2⟩⟩,⟨k.size,λj h1 h2 _ h4=>k.eG j h1 h2 h4,k.km⟩⟩
theorem oW.store(h:oW w0 pl Q bs bt bp gs m cap t Ow w sp)(g:Nat)(hg:g<m)(i j:Int):oW w0 pl Q bs bt bp gs m cap t Ow ((w.setCell ⟨gs,g*2,zb⟩ (zj .i64 i)).setCell ⟨gs,g*2+1,zb⟩ (zj .i64 j)) (sp.set g (i,j))/\Ay w0 gs Ow w Ow ((w.setCell ⟨gs,g*2,zb⟩ (zj .i64 i)).setCell ⟨gs,g*2+1,zb⟩ (zj .i64 j)):=by
 obtain⟨o1,k1⟩:=h.row.stored (g*2) (zj .i64 i);obtain⟨o2,k2⟩:=o1.stored (g*2+1) (zj .i64 j);rw[YO _ _ _ _ (by rw[h.len];exact hg)]at o2;obtain⟨W,hW⟩:∃W,(w.setCell ⟨gs,g*2,zb⟩ (zj .i64 i)).setCell ⟨gs,g*2+1,zb⟩ (zj .i64 j)=W:=⟨_,rfl⟩;rw[hW]at o2 k2 ⊢;have tc:ap (· = gs) w W:=((ap.refl _ w).grown k1 (λk e=>.inl (Option.some.inj e).symm)).grown k2 (λk e=>.inl (Option.some.inj e).symm);have hc:∃ax,w.heap[gs]?=za (zf ax 71 (0,0)):=by
  rcases h.row.2 with ⟨e,_⟩|⟨g,c,ax,e,_,h2,_⟩
  ·cases e
  ·cases e;exact⟨ax,h2⟩
 have ne:∀{k:Nat} {cs:Array zi} {ty:zm},w.heap[k]?=za (zf cs ty (0,0))->ty≠71->k≠gs:=λe1 e2 e3=>by
  obtain⟨ax,h2⟩:=hc;rw[e3,h2]at e1;exact e2 (bL e1).symm
 have sm:∀{k:Nat} {cs:Array zi} {ty:zm},w.heap[k]?=za (zf cs ty (0,0))->ty≠71->W.heap[k]?=za (zf cs ty (0,0)):=λe1 e2=>(tc.same _ (ah.1 e1).1 (ne e1 e2)).trans e1
 have km:bJ w W:=λmg f e=>sm e (by decide)
 exact⟨⟨h.inv.free tc km (λk e=>by have e:k=gs:=e;subst e;exact h.fg),sm h.xs (by decide),sm h.xt (by decide),sm h.xp (by decide),o2,by rw[DX];exact h.len,h.fs,h.ft,h.fp,h.fg⟩,⟨tc.size,λk h1 h2 h3 h4=>⟨tc.same k h2 h3,h4⟩,km⟩⟩
end
end
end Go.Proofs.YtdimhpfiieepiaaGreatDoor
