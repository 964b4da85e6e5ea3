import Derived.Test.YthdljcdbfmhleaaGreatDoorC33
namespace Go.Proofs.YthdljcdbfmhleaaGreatDoor
set_option maxHeartbeats 2000000
set_option maxRecDepth 100000
section
open Go
section
variable {P:Program} {ops:Array Oper} {md:Region.Mode} {C:World->Prop} {Q:Exit->Act->World->Prop}
def zey(md:Region.Mode)(ops:Array Oper):List Nat->Array Bool->Bool
 |[],listed=>(Region.ready md ops listed).isEmpty
 |j::js,listed=>(Region.ready md ops listed == [j])&&zey md ops js (listed.setIfInBounds j true)
def zbr(P:Program)(ops:Array Oper)(C:World->Prop)(t:Nat)(Q:Exit->Act->World->Prop):List (Nat×Oper)->Act->World->Prop
 |[],a,w=>Q .normal a w
 |(_,o)::rest,a,w=>if Region.wanted o (yielded ops a.tmps) then o.wp P a w (fun a' w'=>(t∈rest.map Prod.fst->C w')/\zbr P ops C t Q rest a' w') Q else (t∈rest.map Prod.fst->C w)/\zbr P ops C t Q rest (a.put o.dst undef) w
theorem zcz{t:Nat}:∀(js:List Nat) (l:List (Nat×Oper)) (listed:Array Bool) (a:Act) (w:World),l.map Prod.fst=js->(∀x∈l,ops[x.1]?=some x.2)->(∀k,listed.getD k true=false->k∈js)->zey md ops js listed=true->zbr P ops C t Q l a w->zcY P md ops C t Q l.length listed a w
 |[],[],listed,_,_,_,_,_,hB,h=>by
  simp only[zey,List.isEmpty_iff] at hB;exact⟨hB,h⟩
 |j::js,(j',o)::l,listed,a,w,hl,ho,hk,hB,h=>by
  obtain⟨rfl,hl'⟩:j'=j/\l.map Prod.fst=js:=by simpa using hl
  simp only[zey,zrf,beq_iff_eq] at hB;have h0:ops[j']?=some o:=ho (j',o) (by simp);have hk':∀k,(listed.setIfInBounds j' true).getD k true=false->k∈js:=fun k hf=>by
   by_cases e:j'=k
   ·subst e;rcases zsd j' listed.size with h'|h'
    ·simp[h'] at hf
    ·simp at hf
   ·rw[zbV e] at hf;rcases zrS.1 (hk k hf) with h1|h1
    ·exact absurd h1.symm e
    ·exact h1
  have ih:=fun a w h=>zcz (t:=t) js l (listed.setIfInBounds j' true) a w hl' (fun x hx=>ho x (by simp[hx])) hk' hB.2 h
  have hneed:∀{p:Prop},(t∈l.map Prod.fst->p)->(listed.setIfInBounds j' true).getD t true=false->p:=fun hp hf=>hp (by rw[hl'];exact hk' t hf)
  refine⟨fun e=>absurd e (by rw[hB.1];simp),fun i hi=>?_⟩;rw[hB.1] at hi;have e:i=j':=by simpa using hi
  subst e;unfold wpOp;simp only[h0];unfold zbr at h
  by_cases hw:Region.wanted o (yielded ops a.tmps)=true
  ·rw[zst hw] at h ⊢;exact .inl (Oper.wp_mono (fun a w h=>⟨hneed h.1,ih a w h.2⟩) h)
  ·rw[zss hw] at h ⊢;exact⟨hneed h.1,ih _ _ h.2⟩
 |[],(_,_)::_,_,_,_,h,_,_,_,_=>by simp at h
 |_::_,[],_,_,_,h,_,_,_,_=>by simp at h
def lexI(md:Region.Mode)(ops:Array Oper)(js:List Nat):List Nat->Array Bool->Bool
 |[],listed=>zey md ops js listed&&(List.range ops.size).all (fun k=>listed.getD k true || js.contains k)
 |i::is,listed=>(Region.ready md ops listed).contains i&&Region.free md ops listed i&&lexI md ops js is (listed.setIfInBounds i true)
def idxB(md:Region.Mode)(all:List Oper)(is js:List Nat)(t:Nat):Bool:=
 Region.noSelect all.toArray&&is.all (fun i=>zbI md all.toArray 8 t i&&decide (t≠i)&&(match all[i]? with|some o=>zjV o|none=>false))&&lexI md all.toArray js is (Array.replicate all.length false)&&decide (is.length+js.length=all.length)&&js.all (fun j=>decide (j<all.length))
theorem zgh{t:Nat}{js:List Nat}{lj:List (Nat×Oper)}(hs:Region.noSelect ops=true)(hlj:lj.map Prod.fst=js)(hoj:∀x∈lj,ops[x.1]?=some x.2)(hQ:∀c a a' w,Q (.panic c) a w->Q (.panic c) a' w):
  ∀(is:List Nat) (l:List Oper) (listed:Array Bool) (a:Act) (w:World),za9 md ops listed->listed.size=ops.size->l.length=is.length->(∀k,k<is.length->∃i o,is[k]?=some i/\l[k]?=some o/\ops[i]?=some o/\zjV o=true/\zbI md ops 8 t i=true/\t≠i)->
   lexI md ops js is listed=true->C w->wpQuiet P ops C (fun a'=>∀w',C w'->∀r,r=lj->zbr P ops C t Q r a' w') l a->zcY P md ops C t Q (is.length+lj.length) listed a w
 |[],[],listed,a,w,hcl,hsz,_,_,hB,hC,h=>by
  simp only[lexI,zrf,zrj,zrX,zrg,List.contains_iff_mem] at hB;rw[zrN,zsi];refine zcz js lj listed a w hlj hoj (fun k hk=>?_) hB.1 (h w hC _ rfl);have hlt:k<ops.size:=by
   rcases zsd k ops.size with h'|h'
   ·exact h'
   ·rw[<-hsz] at h';simp[Array.getElem?_eq_none h'] at hk
  rcases hB.2 k hlt with h1|h1
  ·rw[hk] at h1;cases h1
  ·exact h1
 |i::is,o::l,listed,a,w,hcl,hsz,hll,hio,hB,hC,h=>by
  obtain⟨i',o',e1,e2,h0,hrd,hwt,hti⟩:=hio 0 (by simp);simp at e1 e2;subst e1;subst e2;simp only[lexI,zrf] at hB;obtain⟨⟨hr,hf⟩,hB'⟩:=hB;have hr':i∈Region.ready md ops listed:=by simpa using hr
  have next:∀v,zbl P ops C o v a->wpQuiet P ops C (fun a'=>∀w',C w'->∀r,r=lj->zbr P ops C t Q r a' w') l (a.put o.dst v)->zcY P md ops C t Q ((i::is).length+lj.length) listed a w:=fun v hy hk=>by
   have ih:=zgh hs hlj hoj hQ is l (listed.setIfInBounds i true) (a.put o.dst v) w (hcl.set hr') (by simpa using hsz) (by simpa using hll) (fun k hk=>by have:=hio (k+1) (by simp;omega);simpa using this) hB' hC hk;rw[show (i::is).length+lj.length=(is.length+lj.length)+1 by simp;omega];exact zdX h0 hti (fun L hc hl=>zbg hc 8 t i hl hwt) (Region.noSelect_spec hs) hQ _ listed a w hcl (Region.free_spec h0 hf) hr' hy hC ih
  unfold wpQuiet at h
  by_cases hw:Region.wanted o (yielded ops a.tmps)=true
  ·rw[zst hw] at h;obtain⟨v,hy,hk⟩:=zhr hrd hw h;exact next v hy hk
  ·rw[zss hw] at h;exact next undef (.inr ⟨by simpa using hw,rfl⟩) h
 |[],_::_,_,_,_,_,_,h,_,_,_,_=>by simp at h
 |_::_,[],_,_,_,_,_,h,_,_,_,_=>by simp at h
theorem zn2(is js:List Nat)(t:Nat){a:Act}{w:World}{all:List Oper}(C:World->Prop)(hC:C w)(hB:idxB .any all is js t=true)(hQ:∀c a a' w,Q (.panic c) a w->Q (.panic c) a' w)
  (h:∀l,l=is.filterMap (fun i=>all[i]?)->wpQuiet P all.toArray C (fun a'=>∀w',C w'->∀r,r=js.filterMap (fun j=>(all[j]?).map fun o=>(j,o))->zbr P all.toArray C t Q r a' w') l a):wpAny P .any all.toArray Q all.toArray.size (Array.replicate all.toArray.size false) a w:=by
 simp only[idxB,zrf,zrj,zsn] at hB;obtain⟨⟨⟨⟨hs,hi⟩,hlx⟩,hlen⟩,hj⟩:=hB;have key:∀(is:List Nat),(∀x∈is,(zbI .any all.toArray 8 t x=true/\t≠x)/\(match all[x]? with|some o=>zjV o|none=>false)=true)->(is.filterMap (fun i=>all[i]?)).length=is.length/\∀k,k<is.length->∃i o,is[k]?=some i/\(is.filterMap (fun i=>all[i]?))[k]?=some o/\all.toArray[i]?=some o/\zjV o=true/\zbI .any all.toArray 8 t i=true/\t≠i:=by
  intro is
  induction is with
  |nil=>intro _;exact⟨rfl,fun k hk=>absurd hk (zsg _)⟩
  |cons i is ih=>
   intro hx;obtain⟨⟨q1,q2⟩,q3⟩:=hx i (by simp);obtain⟨r1,r2⟩:=ih (fun x hxm=>hx x (by simp[hxm]));cases ho:all[i]? with
   |none=>rw[ho] at q3;cases q3
   |some o=>
    rw[ho] at q3;have e:(i::is).filterMap (fun i=>all[i]?)=o::is.filterMap (fun i=>all[i]?):=by simp[ho]
    rw[e];refine⟨by simp[r1],fun k hk=>?_⟩;cases k with
    |zero=>exact⟨i,o,rfl,rfl,by simpa using ho,q3,q1,q2⟩
    |succ k=>simpa using r2 k (by simpa using hk)
 have keyj:∀(js:List Nat),(∀j∈js,j<all.length)->(js.filterMap (fun j=>(all[j]?).map fun o=>(j,o))).map Prod.fst=js/\∀x∈js.filterMap (fun j=>(all[j]?).map fun o=>(j,o)),all.toArray[x.1]?=some x.2:=by
  intro js
  induction js with
  |nil=>intro _;exact⟨rfl,fun x hx=>by cases hx⟩
  |cons j js ih=>
   intro hx;obtain⟨r1,r2⟩:=ih (fun x hxm=>hx x (by simp[hxm]));have hl:=hx j (by simp);have e:(j::js).filterMap (fun j=>(all[j]?).map fun o=>(j,o))=(j,all[j])::js.filterMap (fun j=>(all[j]?).map fun o=>(j,o)):=by simp[hl]
   rw[e];refine⟨by simp[r1],fun x hxm=>?_⟩;rcases zrS.1 hxm with rfl|hxm
   ·simp[hl]
   ·exact r2 x hxm
 obtain⟨k1,k2⟩:=key is (fun x hx=>by
  obtain⟨⟨a1,a2⟩,a3⟩:=hi x hx;exact⟨⟨a1,a2⟩,a3⟩)
 obtain⟨j1,j2⟩:=keyj js hj;have hjl:(js.filterMap (fun j=>(all[j]?).map fun o=>(j,o))).length=js.length:=by rw[<-zrM (f:=Prod.fst),j1]
 have h1:=zgh (P:=P) (C:=C) (Q:=Q) (md:=.any) (t:=t) hs j1 j2 hQ is _ (Array.replicate all.toArray.size false) a w (za9.start _ _) (by simp) k1 k2 (by simpa using hlx) hC (h _ rfl);have h2:=zds _ _ _ _ h1;rw[hjl,hlen] at h2
 simpa using h2
theorem zgj(is js:List Nat)(t:Nat){id l nn:Nat}{a:Act}{w:World}{all:List Oper}(C:World->Prop)(hm:P.follows .mixedOrders=true)(hC:C w.drew)(hB:idxB .any all is js t=true)(hD:zjz all=true)
  (h:∀l,l=is.filterMap (fun i=>all[i]?)->wpQuiet P all.toArray C (fun a'=>∀w',C w'->∀r,r=js.filterMap (fun j=>(all[j]?).map fun o=>(j,o))->zbr P all.toArray C t (zfj Q) r a' w') l a):(Code.region id all.toArray true).wpIn (Fence.wide.inRound l) nn P Q a w:=by
 refine wpIn_mono (wpIn_region_any hm ?_) zcc;have h1:=zn2 (Q:=zfj Q) is js t C hC hB (fun _ _ _ _ h=>h.elim) h;exact zcm l nn (by rintro ⟨_,_,h⟩;exact h) (zeU hD) _ _ _ _ h1
theorem zd6{o:Oper}{a:Act}{w:World}{K:Act->World->Prop}(f:FuncId)(xs:Array Operand)(ats:Array TypeId)
  (ho:o.op=.call {callee:=.value (.func f),args:=xs,argTypes:=ats}) (args:Array Value) (hargs:(#[]++xs.map a.eval++#[]:Array Value)=args) (R:Value->World->Prop) (hen:(callFunc f args).run P w=.ok (.enter f args) w)
  (hc:Calls P f args w fun e w'=>∃v,e=.returned v/\R v w') (h:∀v w',R v w'->K (a.put o.dst v) w'):Oper.wp P o a w K Q:=by
 obtain⟨dst,op,type,pos,after,guard⟩:=o;simp only at ho;subst ho;unfold Oper.wp;rw[execOp_call_go,hargs];rw[hen,Oper.upon_enter];refine hc.mono ?_;rintro e w' ⟨v,rfl,hR⟩;exact h v w' hR
theorem zbE{t j:Nat}{o:Oper}{rest:List (Nat×Oper)}{a:Act}{w:World}(hg:o.guard=none)(h:∀K:Act->World->Prop,(∀a' w',(t∈rest.map Prod.fst->C w')->zbr P ops C t Q rest a' w'->K a' w')->o.wp P a w K Q):zbr P ops C t Q ((j,o)::rest) a w:=by
 unfold zbr;rw[zst (by simp[Region.wanted,hg])];exact h _ (fun _ _ h1 h2=>⟨h1,h2⟩)
theorem zcu{t:Nat}:∀(l:List (Nat×Oper)) (a:Act) (w:World),t∉l.map Prod.fst->(∀a w,¬Q .outgrown a w)->wpList P ops Q (l.map Prod.snd) a w->zbr P ops C t Q l a w
 |[],_,_,_,_,h=>h
 |(j,o)::l,a,w,hk,hL,h=>by
  simp only[zrQ] at h hk;have hk':t∉l.map Prod.fst:=fun e=>hk (by simp[e])
  unfold wpList at h;unfold zbr
  by_cases hw:Region.wanted o (yielded ops a.tmps)=true
  ·rw[zst hw] at h ⊢;rcases h with h|h
   ·exact Oper.wp_mono (fun a w h=>⟨fun e=>absurd e hk',zcu l a w hk' hL h⟩) h
   ·obtain⟨_,a',w',h'⟩:=h;exact absurd h' (hL a' w')
  ·rw[zss hw] at h ⊢;exact⟨fun e=>absurd e hk',zcu l _ w hk' hL h⟩
end
end
section
open Go.RowKit
structure ExtP(w0:World)(pl:Nat)(Q:Nat->Option Pt)(Ow:Nat->Nat->Prop)(Y:World) where
 W:World
 O:Nat->Nat->Prop
 h:PnT w0 pl Q Ow Y O W
theorem zje(xs:Array Value)(w:World):(callFunc 63 xs).run Tryz.prog w=.ok (.enter 63 xs) w:=by kernel_rfl
theorem zha(xs:Array Value)(w:World):(callFunc 64 xs).run Tryz.prog w=.ok (.enter 64 xs) w:=by kernel_rfl
structure TlS(w0:World)(pl:Nat)(Q:Nat->Option Pt)(Ow:Nat->Nat->Prop)(w:World)(ls:List Lnk)(u:Word)(N ne n gt B6 H:Nat)(Fx:Nat->Prop)(WL W:World)(mt me:Nat)(Ow':Nat->Nat->Prop)(ge:Nat)(ET:Nat->Nat)(gx:Nat->Nat)(TT:Nat->Nat->Nat)(arr:Array Value):Prop where
 pt:PnT w0 pl Q Ow w Ow' W
 fx:∀k,Fx k->W.heap[k]?=WL.heap[k]?
 fl:∀k,Fx k->w.heap.size<=k/\k<W.heap.size/\k≠gt/\k≠B6/\k≠H/\k≠H+1
 fr:∀k,(Fx k\/k=gt\/k=B6\/k=H\/k=H+1)->∀b,¬Ow' k b
 c6:W.heap[B6]?=some (.cells #[.slice (some ⟨ge,0,none⟩) ne ne] 129 (0,0))
 row:W.heap[gt]?=some (.cells arr 129 (0,0))
 len:arr.size=n
 at':∀j,n-mt<=j->j<n->arr[j]?=some (.slice (some ⟨gx j,0,none⟩) ne ne)
 one:∀j,j<n->∃x,arr[j]?=some x
 set:∀j,n-mt<=j->j<n->zal W ne (gx j) (TT j)/\w.heap.size<=gx j/\(∀b,¬Ow' (gx j) b)/\∀q,zae (TT j) q=true↔TlP u N (ls.drop (j+1)) q
 en:zal W ne ge ET/\w.heap.size<=ge/\(∀b,¬Ow' ge b)/\∀q,zae ET q=true↔TlP u N (ls.drop (n-me)) q
 nc:(∀o,W.heap[H]?=some o->o.isCells=false)/\∀o,W.heap[H+1]?=some o->o.isCells=false
 hs:w.heap.size<=gt/\w.heap.size<=B6/\w.heap.size<=H/\w0.heap.size<=w.heap.size/\gt≠B6
section
variable {w0:World} {pl:Nat} {Q:Nat->Option Pt} {Ow:Nat->Nat->Prop} {w:World} {ls:List Lnk} {u:Word} {N ne n gt B6 H:Nat} {Fx:Nat->Prop} {WL W:World} {mt me:Nat} {Ow':Nat->Nat->Prop} {ge:Nat} {ET:Nat->Nat} {gx:Nat->Nat} {TT:Nat->Nat->Nat} {arr:Array Value}
theorem TlS.noH(h:TlS w0 pl Q Ow w ls u N ne n gt B6 H Fx WL W mt me Ow' ge ET gx TT arr){k:Nat}{cs:Array Value}{t:TypeId}(hk:W.heap[k]?=some (.cells cs t (0,0))):k≠H/\k≠H+1:=by
 refine⟨fun e=>?_,fun e=>?_⟩
 ·have:=h.nc.1 _ (e ▸ hk);cases this
 ·have:=h.nc.2 _ (e ▸ hk);cases this
theorem TlS.turn(h:TlS w0 pl Q Ow w ls u N ne n gt B6 H Fx WL W mt me Ow' ge ET gx TT arr){W':World}(t:zdY H W W'):TlS w0 pl Q Ow w ls u N ne n gt B6 H Fx WL W' mt me Ow' ge ET gx TT arr:=by
 obtain⟨s1,s2,s3,s4,s5⟩:=h.hs;have tc:zan (fun k=>k=H\/k=H+1) W W':=⟨t.os,t.tape,t.output,t.size,fun k h1 h2=>t.same k (fun e=>h2 (.inl e)) (fun e=>h2 (.inr e)) h1⟩;have cl:∀{k:Nat} {cs:Array Value} {ty:TypeId},W.heap[k]?=some (.cells cs ty (0,0))->W'.heap[k]?=some (.cells cs ty (0,0)):=fun hk=>(t.same _ (h.noH hk).1 (h.noH hk).2 (zrc.1 hk).1).trans hk
 have ps:∀{g:Nat} {T:Nat->Nat},zal W ne g T->zal W' ne g T:=fun hp=>⟨cl hp.row,hp.lt⟩
 refine⟨h.pt.free tc (fun _ _ e=>cl e) (fun k e=>?_),fun k hk=>?_,fun k hk=>?_,h.fr,cl h.c6,cl h.row,h.len,h.at',h.one,fun j h1 h2=>?_,⟨ps h.en.1,h.en.2⟩,t.nc,h.hs⟩
 ·rcases e with e|e
  ·exact⟨by omega,h.fr k (.inr (.inr (.inr (.inl e)))),by omega⟩
  ·exact⟨by omega,h.fr k (.inr (.inr (.inr (.inr e)))),by omega⟩
 ·obtain⟨_,f1,_,_,f2,f3⟩:=h.fl k hk;exact(t.same k f2 f3 f1).trans (h.fx k hk)
 ·obtain⟨f0,f1,f2⟩:=h.fl k hk;exact⟨f0,zsc f1 t.size,f2⟩
 ·obtain⟨g1,g2⟩:=h.set j h1 h2;exact⟨ps g1,g2⟩
theorem TlS.below(h:TlS w0 pl Q Ow w ls u N ne n gt B6 H Fx WL W mt me Ow' ge ET gx TT arr){W':World}(hb:Below W.heap.size W W')(hH:H+1<W.heap.size):TlS w0 pl Q Ow w ls u N ne n gt B6 H Fx WL W' mt me Ow' ge ET gx TT arr:=by
 have cl:∀{k:Nat} {cs:Array Value} {ty:TypeId},W.heap[k]?=some (.cells cs ty (0,0))->W'.heap[k]?=some (.cells cs ty (0,0)):=fun hk=>(hb.block _ (zrc.1 hk).1).trans hk
 have ps:∀{g:Nat} {T:Nat->Nat},zal W ne g T->zal W' ne g T:=fun hp=>⟨cl hp.row,hp.lt⟩
 refine⟨h.pt.below hb,fun k hk=>(hb.block k (h.fl k hk).2.1).trans (h.fx k hk),fun k hk=>?_,h.fr,cl h.c6,cl h.row,h.len,h.at',h.one,fun j h1 h2=>⟨ps (h.set j h1 h2).1,(h.set j h1 h2).2⟩,⟨ps h.en.1,h.en.2⟩,⟨fun o ho=>h.nc.1 o (by rw[<-hb.block H (by omega)];exact ho),fun o ho=>h.nc.2 o (by rw[<-hb.block (H+1) hH];exact ho)⟩,h.hs⟩;obtain⟨f0,f1,f2⟩:=h.fl k hk;exact⟨f0,zsc f1 hb.size,f2⟩
theorem TlS.store{m x:Nat}(h:TlS w0 pl Q Ow w ls u N ne n gt B6 H Fx WL W m m Ow' ge ET gx TT arr)(hx:x+m+1=n):TlS w0 pl Q Ow w ls u N ne n gt B6 H Fx WL (W.setCell ⟨gt,x,none⟩ (.slice (some ⟨ge,0,none⟩) ne ne)) (m+1) m Ow' ge ET (fun j=>if j=x then ge else gx j) (fun j=>if j=x then ET else TT j) (arr.setIfInBounds x (.slice (some ⟨ge,0,none⟩) ne ne)):=by
 obtain⟨s1,s2,s3,s4,s5⟩:=h.hs;have hr:=zsr W gt x _ _ (.slice (some ⟨ge,0,none⟩) ne ne) h.row;have ot:∀k,k≠gt->(W.setCell ⟨gt,x,none⟩ (.slice (some ⟨ge,0,none⟩) ne ne)).heap[k]?=W.heap[k]?:=fun k e=>zsq _ _ _ _ (show k≠gt from e)
 have hng:∀{k:Nat} {T:Nat->Nat},zal W ne k T->k≠gt:=fun hp e=>by have:=hp.row;rw[e,h.row] at this;exact absurd (zad this) (by decide)
 have tc:zan (fun k=>k=gt) W (W.setCell ⟨gt,x,none⟩ (.slice (some ⟨ge,0,none⟩) ne ne)):=⟨rfl,rfl,rfl,by simp,fun k _ h2=>ot k h2⟩;have hgH:=h.noH h.row;refine⟨h.pt.free tc (fun mg f e=>(ot mg (fun e2=>by rw[e2,h.row] at e;exact absurd (zad e) (by decide))).trans e) (fun k e=>?_),fun k hk=>(ot k (h.fl k hk).2.2.1).trans (h.fx k hk),fun k hk=>?_,h.fr,(ot B6 (fun e=>s5 e.symm)).trans h.c6,hr,by simp[h.len],fun j h1 h2=>?_,fun j hj=>?_,fun j h1 h2=>?_,⟨⟨(ot ge (hng h.en.1)).trans h.en.1.row,h.en.1.lt⟩,h.en.2⟩,⟨fun o ho=>h.nc.1 o (by rw[<-ot H hgH.1.symm];exact ho),fun o ho=>h.nc.2 o (by rw[<-ot (H+1) hgH.2.symm];exact ho)⟩,h.hs⟩
 ·have e:k=gt:=e;exact⟨by omega,h.fr k (.inr (.inl e)),by omega⟩
 ·obtain⟨f0,f1,f2⟩:=h.fl k hk;exact⟨f0,by simpa using f1,f2⟩
 ·have hl:=h.len
  by_cases e:j=x
  ·subst e;simp[show j<arr.size by omega]
  ·simp only[zss e];rw[Array.getElem?_setIfInBounds_ne (Ne.symm e)];exact h.at' j (by omega) h2
 ·by_cases e:j=x
  ·subst e;exact⟨_,by simp[show j<arr.size by have:=h.len;omega];rfl⟩
  ·rw[Array.getElem?_setIfInBounds_ne (Ne.symm e)];exact h.one j hj
 ·by_cases e:j=x
  ·subst e;simp only[if_true];refine⟨⟨(ot ge (hng h.en.1)).trans h.en.1.row,h.en.1.lt⟩,h.en.2.1,h.en.2.2.1,fun q=>?_⟩;rw[h.en.2.2.2 q,show n-m=j+1 from by omega]
  ·simp only[zss e];obtain⟨g1,g2⟩:=h.set j (by omega) h2;exact⟨⟨(ot _ (hng g1)).trans g1.row,g1.lt⟩,g2⟩
theorem TlS.next{m x gs:Nat}(h:TlS w0 pl Q Ow w ls u N ne n gt B6 H Fx WL W (m+1) m Ow' ge ET gx TT arr)(hx:x+m+1=n){Ow3:Nat->Nat->Prop}{W3 W5:World}(pt3:PnT w0 pl Q Ow' W Ow3 W3)(tc:zan (fun k=>k=B6\/k=gs) W3 W5)(km:zaJ W3 W5)(hgs:W.heap.size<=gs)(hgf:∀b,¬Ow3 gs b)(hH:H+1<W.heap.size)(hc6:W5.heap[B6]?=some (.cells #[.slice (some ⟨gs,0,none⟩) ne ne] 129 (0,0))){S:Nat->Nat}(hp:zal W5 ne gs S)(hb:∀q,zae S q=true↔TlP u N (ls.drop x) q):TlS w0 pl Q Ow w ls u N ne n gt B6 H Fx WL W5 (m+1) (m+1) Ow3 gs S gx TT arr:=by
 obtain⟨s1,s2,s3,s4,s5⟩:=h.hs;have hws:=h.pt.size;have hB6l:B6<W.heap.size:=(zrc.1 h.c6).1;have hsz3:=pt3.size;have fr:∀k,w.heap.size<=k->k<W.heap.size->(∀b,¬Ow' k b)->k≠B6->W5.heap[k]?=W.heap[k]?/\∀b,¬Ow3 k b:=fun k h1 h2 h3 h4=>by
  obtain⟨e1,e2⟩:=pt3.fre k (by omega) h2 h3;exact⟨(tc.same k (by omega) (by omega)).trans e1,e2⟩
 have hB6:=h.noH h.c6;have fH:=fr H s3 (by omega) (h.fr H (.inr (.inr (.inr (.inl rfl))))) hB6.1.symm;have fH1:=fr (H+1) (by omega) hH (h.fr (H+1) (.inr (.inr (.inr (.inr rfl))))) hB6.2.symm;have fgt:=fr gt s1 (zrc.1 h.row).1 (h.fr gt (.inr (.inl rfl))) s5;have hnB:∀{k:Nat} {T:Nat->Nat},zal W ne k T->k≠B6:=fun hp e=>by have:=hp.row;rw[e,h.c6] at this;exact absurd (zad this) (by decide)
 have fB6:=(pt3.fre B6 (by omega) hB6l (h.fr B6 (.inr (.inr (.inl rfl))))).2;refine⟨(h.pt.trans pt3).free tc km (fun k e=>?_),fun k hk=>?_,fun k hk=>?_,fun k hk=>?_,hc6,fgt.1.trans h.row,h.len,h.at',h.one,fun j h1 h2=>?_,⟨hp,by omega,hgf,fun q=>?_⟩,⟨fun o ho=>h.nc.1 o (by rw[<-fH.1];exact ho),fun o ho=>h.nc.2 o (by rw[<-fH1.1];exact ho)⟩,h.hs⟩
 ·rcases e with e|e
  ·exact⟨by omega,e ▸ fB6,by omega⟩
  ·exact⟨by omega,e ▸ hgf,by omega⟩
 ·obtain⟨f0,f1,f2,f3,f4⟩:=h.fl k hk;exact(fr k f0 f1 (h.fr k (.inl hk)) f3).1.trans (h.fx k hk)
 ·obtain⟨f0,f1,f2⟩:=h.fl k hk;exact⟨f0,by have:=tc.size;omega,f2⟩
 ·rcases hk with hk|hk|hk|hk|hk
  ·obtain⟨f0,f1,f2,f3,f4⟩:=h.fl k hk;exact(fr k f0 f1 (h.fr k (.inl hk)) f3).2
  ·rw[hk];exact fgt.2
  ·rw[hk];exact fB6
  ·rw[hk];exact fH.2
  ·rw[hk];exact fH1.2
 ·obtain⟨g1,g2,g3,g4⟩:=h.set j h1 h2;obtain⟨e1,e2⟩:=fr (gx j) g2 g1.glt g3 (hnB g1);exact⟨⟨e1.trans g1.row,g1.lt⟩,g2,e2,g4⟩
 ·rw[hb q,show n-(m+1)=x from by omega]
end
end
variable {w0:World}{pl i:Nat}{Q:Nat -> Option Pt}{Ow:Nat -> Nat -> Prop}{xs:List (Nat×Lnk)}
open Go.RowKit
attribute [local go_sem] Oper.semAt_some
theorem zm8{lo go cap:Nat}(hr:w0.ownsRow lo 155 2 (.slice (some ⟨go,0,none⟩) xs.length cap) xs.length (lkL xs)){w:World}(h:PnI w0 pl Q Ow w){i a:Nat}{q:Pt}{o:Bool}(hx:xs[i]?=some (a,q,o)):w.cell? ⟨go,i*2,none⟩=some (.pointer (some ⟨a,0,none⟩))/\w.cell? ⟨go,i*2+1,none⟩=some (.bool o):=by
 have hi:=(zrF.1 hx).1;rcases hr.2 with ⟨h0,_⟩|⟨g',cap',cur,hv,h1,h2,h3,h4,h5,h6⟩
 ·cases h0
 ·cases hv
  have hw:=h.typ h2 (by decide) (by decide);obtain⟨l1,l2⟩:=zjs xs i a q o hx;have hg:∀j,j<xs.length*2->cur[j]?=(lkL xs)[j]?:=fun j hj=>by
   rw[<-h6,zrI,zst hj];simp
  rw[zsm _ _ _ _ _ _ hw,zsm _ _ _ _ _ _ hw,hg _ (by omega),hg _ (by omega)];exact⟨l1,l2⟩
def lkA(xs:List (Nat×Lnk))(i:Nat):Nat:=(xs.getD i (0,.set fun _=>false,false)).1
def lkO(xs:List (Nat×Lnk))(i:Nat):Bool:=(xs.getD i (0,.set fun _=>false,false)).2.2
def lkQ(xs:List (Nat×Lnk))(i:Nat):Pt:=(xs.getD i (0,.set fun _=>false,false)).2.1
theorem zeS(hi:i<xs.length):xs[i]?=some (lkA xs i,lkQ xs i,lkO xs i):=by
 unfold lkA lkQ lkO;rw[zrw,zrD hi]
 rfl
theorem zm9(hi:i<xs.length):(xs.map Prod.snd).drop i=(lkQ xs i,lkO xs i)::(xs.map Prod.snd).drop (i+1):=by
 have h1:=zeS hi;have hl:i<(xs.map Prod.snd).length:=by simpa using hi
 rw[zrp hl]
 congr 1
 have:(xs.map Prod.snd)[i]?=some (lkQ xs i,lkO xs i):=by rw[zrG,h1];rfl
 rw[zrD hl] at this;exact Option.some.inj this
def TlA(w0:World)(pl:Nat)(Q:Nat->Option Pt)(Ow:Nat->Nat->Prop)(w:World)(ls:List Lnk)(u:Word)(N ne n:Nat)(e:Ending)(w':World):Prop:=
 ∃(Ow':Nat->Nat->Prop) (gt:Nat) (gx:Nat->Nat) (TT:Nat->Nat->Nat),e=.returned (.slice (some ⟨gt,0,none⟩) n n)/\PnT w0 pl Q Ow w Ow' w'/\w.heap.size<=gt/\(∀b,¬Ow' gt b)/\(∀j,j<n->w'.cell? ⟨gt,j,none⟩=some (.slice (some ⟨gx j,0,none⟩) ne ne))/\∀j,j<n->zal w' ne (gx j) (TT j)/\w.heap.size<=gx j/\(∀b,¬Ow' (gx j) b)/\∀q,zae (TT j) q=true↔TlP u N (ls.drop (j+1)) q
theorem zpq(w:World)(h:PnI w0 pl Q Ow w)(lo go cap:Nat)(xs:List (Nat×Lnk))(hr:w0.ownsRow lo 155 2 (.slice (some ⟨go,0,none⟩) xs.length cap) xs.length (lkL xs))(hQ:∀x,x∈xs->Q x.1=some x.2.1)(hn9:xs.length<=100000)(t:ByteArray)(ht:t.size<=4096)(hnz:∀k,k<=xs.length->∃m,TlP t.data.toList t.size ((xs.map Prod.snd).drop k) m):
  Calls Tryz.prog 156 #[.agg #[.slice (some ⟨go,0,none⟩) xs.length cap],.string t] w fun e w'=>TlA w0 pl Q Ow w (xs.map Prod.snd) t.data.toList t.size (t.size/64+1) xs.length e w':=by
 obtain⟨i1,hj,hy0,hy1,hy2⟩:=info_parts Tryz.infoPosSet;obtain⟨n,Hn⟩:∃n,Hid (xs.length=n):=⟨_,rfl⟩;obtain⟨ne,Hne⟩:∃ne,Hid (t.size/64+1=ne):=⟨_,rfl⟩;have hne9:ne<=100:=by have:=Hne.out;omega
 have hnt:t.size<64*ne:=by have:=Hne.out;omega
 have hgo:go<w0.heap.size:=(zcP hr).2.2.1;obtain⟨gcur,hgcur⟩:=(zcP hr).2.2.2;have Hgo:Hid (∀W Ow1,PnI w0 pl Q Ow1 W->W.heap[go]?=some (.cells gcur 155 (0,0))):=fun W Ow1 hI=>hI.typ hgcur (by decide) (by decide)
 clear hgcur;have hws:=h.size;have Hcell:Hid (∀W Ow1,PnI w0 pl Q Ow1 W->∀i,i<n->W.cell? ⟨go,i*2,none⟩=some (.pointer (some ⟨lkA xs i,0,none⟩))/\W.cell? ⟨go,i*2+1,none⟩=some (.bool (lkO xs i))):=fun W Ow1 hI i hi=>zm8 hr hI (zeS (by have:=Hn.out;omega))
 have HQ:Hid (∀i,i<n->Q (lkA xs i)=some (lkQ xs i)):=fun i hi=>by
  have hx:=zeS (xs:=xs) (i:=i) (by have:=Hn.out;omega);exact hQ _ (zrW hx)
 have Hdr:Hid (∀i,i<n->(xs.map Prod.snd).drop i=(lkQ xs i,lkO xs i)::(xs.map Prod.snd).drop (i+1)):=fun i hi=>zm9 (by have:=Hn.out;omega)
 have Hnil:Hid ((xs.map Prod.snd).drop n=[]):=by show _=_;rw[<-Hn.out];simp
 rw[Hn.out] at hnz;have Hnz:=hidF hnz;have Hi:=hidF h;have hon:=fun W=>zhn t.size W ht
 rw[Hn.out] at hn9 ⊢;rw[Hne.out] at hon ⊢;generalize xs.map Prod.snd=ls at *;generalize lkA xs=pa at *;generalize lkO xs=po at *;generalize lkQ xs=pq at *;clear hr hQ hnz h Hn;refine(callsIn_wide (n:=5)).1 ?_;refine callsIn_of_wp_marks Tryz.func156 rfl trivial ?_ rfl;refine wpIn_wide.2 ?_;simp only[Tryz.ntmps156,zr4,zrL,zrN,Nat.reduceAdd,Nat.reduceSub,zrd,zre,zr1,zrn,zrZ,zro];obtain⟨W1,hW1⟩:∃W1,(w.alloc (.cells #[.slice (some ⟨go,0,none⟩) n cap] 161)).alloc (.cells #[.string t] 9)=W1:=⟨_,rfl⟩;have hb1:Below w.heap.size w W1:=by rw[<-hW1];exact((Below.refl _ _).alloc (zsa _) _).alloc (by simp) _
 have x0:W1.heap[w.heap.size]?=some (.cells #[.slice (some ⟨go,0,none⟩) n cap] 161 (0,0)):=by rw[<-hW1];exact zah (zsp _ _)
 have x1:W1.heap[w.heap.size+1]?=some (.cells #[.string t] 9 (0,0)):=by
  rw[<-hW1];have:=zsp (w.alloc (.cells #[.slice (some ⟨go,0,none⟩) n cap] 161)) (.cells #[.string t] 9)
  simpa using this
 have c0:W1.cell? ⟨w.heap.size,0,none⟩=some (.slice (some ⟨go,0,none⟩) n cap):=(zsm _ _ _ _ _ _ x0:_=_);have hl1:w.heap.size+1<W1.heap.size:=(zrc.1 x1).1
 go_wp2_with (at_make;refine wpList_make_full _ rfl _ _ 175 rfl w.heap.size 129 i1 _ 1 Tryz.underlying175 hj hy0 hy1 _ _ _ _ n rfl rfl rfl rfl (by rw[hy2];omega) (by unfold maxLen;omega) hb1.size ?_;intro W2 hown hgrow;have hb2:Below W1.heap.size W1 W2:=⟨hgrow.os,hgrow.tape,hgrow.output,hgrow.size,fun k hk=>hgrow.block k hk (by simp)⟩;obtain⟨W3,hW3⟩:∃W3,W2.alloc (.cells #[.slice (some ⟨W1.heap.size,0,none⟩) n n] 175)=W3:=⟨_,rfl⟩;have hb3:Below W2.heap.size W2 W3:=(by rw[<-hW3];exact(Below.refl _ _).alloc (zsa _) _);have x5:W3.heap[W2.heap.size]?=some (.cells #[.slice (some ⟨W1.heap.size,0,none⟩) n n] 175 (0,0)):=(by rw[<-hW3];exact zsp _ _);have hb13:Below W1.heap.size W1 W3:=hb2.trans (hb3.mono hb2.size);have d1:W3.cell? ⟨w.heap.size+1,0,none⟩=some (.string t):=(hb13.cell (p:=⟨w.heap.size+1,0,none⟩) hl1).trans (zsm _ _ _ _ _ _ x1))
 refine(hon W3).mono ?_;rintro e W4 ⟨U,rfl,hU,hUb,hb4⟩;obtain⟨W5,hW5⟩:∃W5,W4.alloc (.cells #[.slice (some ⟨W3.heap.size,0,none⟩) ne ne] 129)=W5:=⟨_,rfl⟩;have hb5:Below W4.heap.size W4 W5:=by rw[<-hW5];exact(Below.refl _ _).alloc (zsa _) _
 have x6:W5.heap[W4.heap.size]?=some (.cells #[.slice (some ⟨W3.heap.size,0,none⟩) ne ne] 129 (0,0)):=by rw[<-hW5];exact zsp _ _
 have hb35:Below W3.heap.size W3 W5:=hb4.trans (hb5.mono hb4.size);have hb15:Below W1.heap.size W1 W5:=hb13.trans (hb35.mono hb13.size);have hl0:w.heap.size<W1.heap.size:=by omega
 have e0:W5.cell? ⟨w.heap.size,0,none⟩=some (.slice (some ⟨go,0,none⟩) n cap):=(hb15.cell (p:=⟨w.heap.size,0,none⟩) hl0).trans c0;have hbl:=zmd go n cap W5;have hs3:W2.heap.size<W3.heap.size:=(zrc.1 x5).1;have hs5:W4.heap.size<W5.heap.size:=(zrc.1 x6).1;have hs12:=hb2.size;have hs34:=hb4.size;have hUl:W3.heap.size<W4.heap.size:=hU.glt;obtain⟨arr,hrow,hlen,hone⟩:∃arr:Array Value,W2.heap[W1.heap.size]?=some (.cells arr 129 (0,0))/\arr.size=n/\∀j,j<n->∃x,arr[j]?=some x:=by
  rcases hown.2 with ⟨e,_⟩|⟨g,cp,cur,e,q1,q2,q3,q4,q5,q6⟩
  ·cases e
  ·cases e
   exact⟨cur,q2,by omega,fun j hj=>⟨_,Array.getElem?_eq_getElem (by omega)⟩⟩
 have hs2:W1.heap.size<W2.heap.size:=(zrc.1 hrow).1;obtain⟨WL,hWL⟩:∃WL,W5.alloc (.cells #[.slice (some ⟨go,0,none⟩) n cap] 156)=WL:=⟨_,rfl⟩;have hb6:Below W5.heap.size W5 WL:=by rw[<-hWL];exact(Below.refl _ _).alloc (zsa _) _
 have xb:WL.heap[W5.heap.size]?=some (.cells #[.slice (some ⟨go,0,none⟩) n cap] 156 (0,0)):=by rw[<-hWL];exact zsp _ _
 have hs6:W5.heap.size<WL.heap.size:=(zrc.1 xb).1;have hb0L:Below w.heap.size w WL:=hb1.trans ((hb15.trans (hb6.mono hb15.size)).mono hb1.size);have hiL:=Hi.out.below hb0L;have HT0:Hid (TlS w0 pl Q Ow w ls t.data.toList t.size ne n W1.heap.size W4.heap.size WL.heap.size (fun k=>k=w.heap.size\/k=w.heap.size+1\/k=W2.heap.size\/k=W5.heap.size) WL WL 0 0 Ow W3.heap.size U (fun _=>0) (fun _=>zaQ) arr):=by
  have hfree:∀k,w.heap.size<=k->∀b,¬Ow k b:=fun k hk b ho=>by have:=(Hi.out.ow k b ho).2;omega
  refine⟨PnT.of_below Hi.out hb0L,fun _ _=>rfl,fun k hk=>by rcases hk with rfl|rfl|rfl|rfl<;>omega,fun k hk=>?_,(hb6.block _ hs5).trans x6,?_,hlen,fun j h1 h2=>by omega,hone,fun j h1 h2=>by omega,⟨(hU.below hb5).below hb6,by omega,hfree _ (by omega),fun q=>?_⟩,⟨fun o ho=>?_,fun o ho=>?_⟩,by omega⟩
  ·rcases hk with hk|hk|hk|hk|hk
   ·rcases hk with rfl|rfl|rfl|rfl<;>exact hfree _ (by omega)
   all_goals (subst hk;exact hfree _ (by omega))
  ·exact(hb6.block _ (by omega)).trans ((hb35.block _ (by omega)).trans ((hb3.block _ (by omega)).trans hrow))
  ·rw[hUb q,Nat.sub_zero,Hnil.out];exact Iff.rfl
  ·rw[zrb (zsa _)] at ho;cases ho
  ·rw[zrb (by omega)] at ho;cases ho
 have hcL:=Hcell.out WL Ow hiL;have x0L:WL.heap[w.heap.size]?=some (.cells #[.slice (some ⟨go,0,none⟩) n cap] 161 (0,0)):=(hb6.block _ (by omega)).trans ((hb15.block _ hl0).trans x0);have x1L:WL.heap[w.heap.size+1]?=some (.cells #[.string t] 9 (0,0)):=(hb6.block _ (by omega)).trans ((hb15.block _ hl1).trans x1);have x5L:WL.heap[W2.heap.size]?=some (.cells #[.slice (some ⟨W1.heap.size,0,none⟩) n n] 175 (0,0)):=(hb6.block _ (by omega)).trans ((hb35.block _ hs3).trans x5);have Hx0:=hidF x0L;have Hx1:=hidF x1L;have Hx5:=hidF x5L;clear hon hU hUb hb2 hb3 hb13 hb35 hb15 hb5 x0 x1 x5 x6 d1 c0 hown hgrow hrow hlen hone hiL x0L x1L x5L hb0L
 go_wp2_with fail
 refine hbl.mono ?_;rintro e W6 ⟨rfl,hW6⟩;rw[hWL] at hW6;subst W6;clear hbl hWL e0 hW5 hW3 hW1 hb6 hb4 hb1;go_wp2;refine(wpIn_wide (n:=5)).1 ?_
 rename_i K hKc
 have hgoL:go<WL.heap.size:=by omega
 have Hfin:Hid (∀(W:World) (me:Nat) (Ow':Nat->Nat->Prop) (ge:Nat) (ET:Nat->Nat) (gx:Nat->Nat) (TT:Nat->Nat->Nat) (arr:Array Value),TlS w0 pl Q Ow w ls t.data.toList t.size ne n W1.heap.size W4.heap.size WL.heap.size (fun k=>k=w.heap.size\/k=w.heap.size+1\/k=W2.heap.size\/k=W5.heap.size) WL W n me Ow' ge ET gx TT arr->W.heap[WL.heap.size]?=some (.deferred (some []))->TlA w0 pl Q Ow w ls t.data.toList t.size ne n (.returned (.slice (some ⟨W1.heap.size,0,none⟩) n n)) (W.putObj WL.heap.size (.deferred none))):=by
  intro W me Ow' ge ET gx TT arr hS hD;have hlt:=(zrc.1 hD).1;have h2:=hS.turn (W':=W.putObj WL.heap.size (.deferred none)) ⟨rfl,rfl,rfl,by simp,fun k q1 _ _=>World.putObj_heap_other q1,fun o ho=>by rw[World.putObj_heap_same hlt] at ho;cases ho;rfl,fun o ho=>hS.nc.2 o (by rw[World.putObj_heap_other (by omega)] at ho;exact ho)⟩;refine⟨Ow',_,gx,TT,rfl,h2.pt,by omega,h2.fr _ (.inr (.inl rfl)),fun j hj=>?_,fun j hj=>h2.set j (by omega) hj⟩;rw[zsm _ _ _ _ _ _ h2.row];exact h2.at' j (by omega) hj
 refine zke (by omega) (gf:=160) (fb:=#[]) (lb:=#[.pointer (some ⟨W5.heap.size,0,none⟩)]) rfl (enters_of Tryz.func160 (by kernel_rfl) rfl)
  (T:=[W5.heap.size,go]) (by intro k hk;simp at hk;omega)
  (zk9 4 n go cap W5.heap.size pa po (by omega) hn9 WL xb hcL) (fun _=>rfl)
  (fun pre W=>∃(Ow':Nat->Nat->Prop) (ge:Nat) (ET:Nat->Nat) (gx:Nat->Nat) (TT:Nat->Nat->Nat) (arr:Array Value),TlS w0 pl Q Ow w ls t.data.toList t.size ne n W1.heap.size W4.heap.size WL.heap.size (fun k=>k=w.heap.size\/k=w.heap.size+1\/k=W2.heap.size\/k=W5.heap.size) WL W pre.length pre.length Ow' ge ET gx TT arr)
  (fun c _ W=>c=.exit 0/\∃me:Nat,∃(Ow':Nat->Nat->Prop) (ge:Nat) (ET:Nat->Nat) (gx:Nat->Nat) (TT:Nat->Nat->Nat) (arr:Array Value),TlS w0 pl Q Ow w ls t.data.toList t.size ne n W1.heap.size W4.heap.size WL.heap.size (fun k=>k=w.heap.size\/k=w.heap.size+1\/k=W2.heap.size\/k=W5.heap.size) WL W n me Ow' ge ET gx TT arr)
  (fun s A B hs ht=>by
   obtain⟨Ow',ge,ET,gx,TT,arr,h⟩:=hs;exact⟨Ow',ge,ET,gx,TT,arr,h.turn ht⟩)
  (fun c s A B hs ht=>by
   obtain⟨h1,me,Ow',ge,ET,gx,TT,arr,h⟩:=hs;exact⟨h1,me,Ow',ge,ET,gx,TT,arr,h.turn ht⟩)
  ⟨_,_,_,_,_,_,HT0.out⟩
  (fun x W=>W.alloc (.cells #[.pointer (some ⟨pa x.1,0,none⟩),.bool (po x.1)] 155)) (fun x W=>(Below.refl _ _).alloc (zsa _) _)
  (fun x W=>{tmps:=#[.agg #[.slice (some ⟨go,0,none⟩) n cap],.string t,.pointer (some ⟨w.heap.size,0,none⟩),.pointer (some ⟨w.heap.size+1,0,none⟩),.slice none 0 0,.pointer (some ⟨W2.heap.size,0,none⟩),.pointer (some ⟨W4.heap.size,0,none⟩),.int .i64 (x.1:Int),.pointer (some ⟨W.heap.size,0,none⟩),.pointer (some ⟨w.heap.size,0,none⟩),.slice (some ⟨go,0,none⟩) n cap,.int .i64 n,.slice (some ⟨W1.heap.size,0,none⟩) n n,.string t,.int .i64 (t.size:Int),.slice (some ⟨W3.heap.size,0,none⟩) ne ne,.pointer (some ⟨w.heap.size,0,none⟩),.slice (some ⟨go,0,none⟩) n cap,.func (.func 160) #[] #[.pointer (some ⟨W5.heap.size,0,none⟩)],.int .i64 (x.1:Int),.agg #[.pointer (some ⟨pa x.1,0,none⟩),.bool (po x.1)],undef,undef,undef,undef,undef,undef,undef,undef,undef,undef,undef,undef,undef,undef,undef,undef,undef,undef,undef,undef,undef,undef],defers:=[]})
  ?assign ?body ?done ?stop
 case assign=>
  intro l x W K hK;unfold encL
  gi_wp2
  exact hK
 case stop=>
  rintro D c pre W rfl _ ⟨rfl,me,Ow',ge,ET,gx,TT,arr,hS⟩ hD;have c5:W.cell? ⟨W2.heap.size,0,none⟩=some (.slice (some ⟨W1.heap.size,0,none⟩) n n):=(zsm _ _ _ _ _ _ ((hS.fx W2.heap.size (.inr (.inr (.inl rfl)))).trans Hx5.out):_=_);have HF:=hidF (Hfin.out W me Ow' ge ET gx TT arr hS hD);have HD:=hidF hD;clear hS hD
  gi_wp2
  try go_wp2
  refine⟨by simp,.inl ⟨_,_,rfl,run_takeDeferred HD.out,?_⟩⟩;exact⟨.slice (some ⟨W1.heap.size,0,none⟩) n n,by simp[results,Tryz.results156,go_sem],HF.out⟩
 case done=>
  rintro D ys W rfl hys ⟨Ow',ge,ET,gx,TT,arr,hS⟩ hD;rw[hys] at hS;have c5:W.cell? ⟨W2.heap.size,0,none⟩=some (.slice (some ⟨W1.heap.size,0,none⟩) n n):=(zsm _ _ _ _ _ _ ((hS.fx W2.heap.size (.inr (.inr (.inl rfl)))).trans Hx5.out):_=_);have HF:=hidF (Hfin.out W n Ow' ge ET gx TT arr hS hD);have HD:=hidF hD;clear hS hD;refine hKc _ _ ?_;dsimp only;go_wp2;refine⟨by simp,.inl ⟨_,_,rfl,run_takeDeferred HD.out,?_⟩⟩;exact⟨.slice (some ⟨W1.heap.size,0,none⟩) n n,by simp[results,Tryz.results156,go_sem],HF.out⟩
 case body=>
  clear hKc Hfin;rintro l pre ⟨x,hx⟩ W0 W hlen ⟨Ow',ge,ET,gx,TT,arr,hS0⟩ tL hnx;have hbV:Below W0.heap.size W0 (W0.alloc (.cells #[.pointer (some ⟨pa x,0,none⟩),.bool (po x)] 155)):=(Below.refl _ _).alloc (zsa _) _;have hS:=hidF ((hS0.below hbV hlen).turn tL);have hlk:W.heap[W0.heap.size]?=some (.cells #[.pointer (some ⟨pa x,0,none⟩),.bool (po x)] 155 (0,0)):=(tL.same _ (by omega) (by omega) (by simp)).trans (zsp _ _);have hlkf:∀b,¬Ow' W0.heap.size b:=fun b ho=>by have:=(hS0.pt.inv.ow _ b ho).2;omega
  have hWs:W0.heap.size<W.heap.size:=(zrc.1 hlk).1;have hw00:=hS0.pt.size;obtain⟨m,Hm⟩:∃m,Hid (pre.length=m):=⟨_,rfl⟩;have hnx':x+m+1=n:=by have:=Hm.out;have:x+pre.length+1=n:=hnx;omega
  have Hnx:=hidF hnx';rw[Hm.out] at hS;have c5:W.cell? ⟨W2.heap.size,0,none⟩=some (.slice (some ⟨W1.heap.size,0,none⟩) n n):=(zsm _ _ _ _ _ _ ((hS.out.fx W2.heap.size (.inr (.inr (.inl rfl)))).trans Hx5.out):_=_);have c6:W.cell? ⟨W4.heap.size,0,none⟩=some (.slice (some ⟨ge,0,none⟩) ne ne):=(zsm _ _ _ _ _ _ hS.out.c6:_=_);obtain⟨y,hy⟩:=hS.out.one x hx;have cx:W.cell? ⟨W1.heap.size,x,none⟩=some y:=(zsm _ _ _ _ _ _ hS.out.row).trans hy;have fx:=zso _ _ x _ _ hS.out.row;have HS1:=hidF (hS.out.store hnx');have hgH:=hS.out.noH hS.out.row;have hgl:W0.heap.size≠W1.heap.size:=fun e=>by have:=hS.out.row;rw[<-e,hlk] at this;exact absurd (zad this) (by decide)
  have hx0:(0:Int)<=(x:Int):=by omega
  have hx1:(x:Int)<(n:Int):=by omega
  obtain⟨Y,hY⟩:∃Y,W.setCell ⟨W1.heap.size,x,none⟩ (.slice (some ⟨ge,0,none⟩) ne ne)=Y:=⟨_,rfl⟩;rw[hY] at HS1;have hYk:∀k,k≠W1.heap.size->Y.heap[k]?=W.heap[k]?:=fun k e=>by rw[<-hY];exact zsq _ _ _ _ (show k≠W1.heap.size from e)
  have HkL:Hid (ziU WL.heap.size W Y):=⟨hYk _ hgH.1.symm,hYk _ hgH.2.symm⟩;have hYs:Y.heap.size=W.heap.size:=by rw[<-hY];simp
  have HT:Hid (∀k,k∈[W5.heap.size,go]->Y.heap[k]?=W.heap[k]?):=fun k hk=>hYk k (by simp at hk;omega)
  have hlkY:=(hYk _ hgl).trans hlk;clear hS0 tL hbV hlk hy hnx hnx' xb hcL HT0;dsimp only
  by_cases hxz:x=0
  ·have hd:((x:Int)==0)=true:=by simp[hxz]
   have Hxz:=hidF hxz;have HF:Hid (∃me:Nat,∃(Ow':Nat->Nat->Prop) (ge:Nat) (ET:Nat->Nat) (gx:Nat->Nat) (TT:Nat->Nat->Nat) (arr:Array Value),TlS w0 pl Q Ow w ls t.data.toList t.size ne n W1.heap.size W4.heap.size WL.heap.size (fun k=>k=w.heap.size\/k=w.heap.size+1\/k=W2.heap.size\/k=W5.heap.size) WL Y n me Ow' ge ET gx TT arr):=⟨m,_,_,_,_,_,_,by have h:=HS1.out;rw[show m+1=n from by have:=Hnx.out;have:=Hxz.out;omega] at h;exact h⟩;clear hxz hS HS1
   gi_wp2
   exact⟨HkL.out,rfl,HF.out⟩
  ·have hd:((x:Int)==0)=false:=by simp[hxz]
   clear hxz hS
   gi_wp2
   clear hY c5 c6 cx fx hd;have fre:∀{W':World} {O':Nat->Nat->Prop} (k:Nat),PnT w0 pl Q Ow' Y O' W'->w.heap.size<=k->k<Y.heap.size->(∀b,¬Ow' k b)->W'.heap[k]?=Y.heap[k]?:=fun k hT h1 h2 h3=>(hT.fre k (by omega) h2 h3).1
   have hB6l:W4.heap.size<Y.heap.size:=(zrc.1 HS1.out.c6).1;have h1l:w.heap.size+1<Y.heap.size:=(HS1.out.fl _ (.inr (.inl rfl))).2.1;have hlkl:W0.heap.size<Y.heap.size:=(zrc.1 hlkY).1;have Hlk:Hid (∀s:ExtP w0 pl Q Ow' Y,s.W.heap[W0.heap.size]?=some (.cells #[.pointer (some ⟨pa x,0,none⟩),.bool (po x)] 155 (0,0))):=fun s=>(fre _ s.h (by omega) hlkl hlkf).trans hlkY
   have H6:Hid (∀s:ExtP w0 pl Q Ow' Y,s.W.heap[W4.heap.size]?=some (.cells #[.slice (some ⟨ge,0,none⟩) ne ne] 129 (0,0))):=fun s=>(fre _ s.h (by omega) hB6l (HS1.out.fr _ (.inr (.inr (.inl rfl))))).trans HS1.out.c6
   have H1:Hid (∀s:ExtP w0 pl Q Ow' Y,s.W.heap[w.heap.size+1]?=some (.cells #[.string t] 9 (0,0))):=fun s=>(fre _ s.h (by omega) h1l (HS1.out.fr _ (.inl (.inr (.inl rfl))))).trans ((HS1.out.fx _ (.inr (.inl rfl))).trans Hx1.out)
   have xl:∀s:ExtP w0 pl Q Ow' Y,s.W.cell? ⟨W0.heap.size,0,none⟩=some (.pointer (some ⟨pa x,0,none⟩)):=fun s=>(zay (Hlk.out s)).1
   have x6:∀s:ExtP w0 pl Q Ow' Y,s.W.cell? ⟨W4.heap.size,0,none⟩=some (.slice (some ⟨ge,0,none⟩) ne ne):=fun s=>(zsm _ _ _ _ _ _ (H6.out s):_=_)
   have x1:∀s:ExtP w0 pl Q Ow' Y,s.W.cell? ⟨w.heap.size+1,0,none⟩=some (.string t):=fun s=>(zsm _ _ _ _ _ _ (H1.out s):_=_)
   have hpr:PnT w0 pl Q Ow' Y Ow' Y.drew:=PnT.of_below HS1.out.pt.inv ((Below.refl _ _).drew)
   haveI hnon:Nonempty (ExtP w0 pl Q Ow' Y):=⟨⟨_,_,hpr⟩⟩
   have hmix:Tryz.prog.follows .mixedOrders=true:=by kernel_rfl
   refine zgj [0,1,3,4] [2,5,6,7,8,9] 5 (fun w'=>∃s:ExtP w0 pl Q Ow' Y,w'=s.W) hmix ⟨⟨_,_,hpr⟩,rfl⟩ (by kernel_rfl) rfl ?_;intro os hos;simp only[zru,zrv,zrB,zrA] at hos;subst hos
   change wpQuiet _ _ _ _ [_,_,_,_] _
   repeat (go_big_quiet_step (fail))
   refine wpQuiet_nil ?_;rintro w' ⟨⟨Wb,Ob,hWb⟩,hw'⟩ r' hr';replace hw':w'=Wb:=hw';subst w';simp only[zru,zrv,zrB,zrA,Option.map_some] at hr';subst hr';clear xl x6 x1;refine zbE rfl (fun K5 hK5=>?_);refine zd6 63 #[.tmp 28] #[86] (by rfl) #[.pointer (some ⟨pa x,0,none⟩)] (by simp[Act.eval]) (fun vs w1=>∃(s:Nat) (Ow1:Nat->Nat->Prop) (X:Nat->Prop) (v:StV) (ra rb:RdV) (O1 O2:Nat->Prop),vs=.pointer (some ⟨s,0,none⟩)/\StrO w0 pl Q (pa x) (pq x) Ow1 w1 s X v ra rb O1 O2/\ra.m<=8192/\rb.m<=8192/\Chg pl (pa x) Ob Wb Ow1 w1 X) (zje _ _) ((zdj (pa x) (pq x) Wb hWb.inv (HQ.out x hx)).mono (by
     rintro e w1 ⟨s,Ow1,X,v,ra,rb,O1,O2,rfl,h1,h2,h3,h4⟩;exact⟨_,rfl,s,Ow1,X,v,ra,rb,O1,O2,rfl,h1,h2,h3,h4⟩)) ?_
   rintro vs w1 ⟨s,Ow1,X,v,ra,rb,O1,O2,rfl,hso,hma,hmb,hch⟩;have hT1:=hWb.trans (hso.plT hch);refine hK5 _ _ (fun _=>⟨⟨_,_,hT1⟩,rfl⟩) ?_;clear hK5 K5;have hEn:=HS1.out.en;have hgel:ge<Y.heap.size:=hEn.1.glt;have hE1:zal w1 ne ge ET:=⟨(fre ge hT1 hEn.2.1 hgel hEn.2.2.1).trans hEn.1.row,hEn.1.lt⟩;have hXge:¬X ge:=fun e=>by
    have hb:=(hWb.fre ge (by omega) hgel hEn.2.2.1).2;have:=hWb.size;rcases hch.xs ge e with f|f
    ·exact hb _ f
    ·omega
   have hdn:n-m=x+1:=by have:=Hnx.out;omega
   obtain⟨q0,hq0⟩:=Hnz.out (x+1) (by omega);have hEq:∀q,zae ET q=true↔TlP t.data.toList t.size (ls.drop (x+1)) q:=fun q=>by rw[hEn.2.2.2 q,hdn]
   have hbk:=zc1 hso (by omega) (by omega) t ht ne ge ne ET hE1 hne9 hXge ⟨q0,by have:=hq0.le;omega,(hEq q0).2 hq0⟩ (fun q _ hb=>((hEq q).1 hb).le);refine zbE rfl (fun K5 hK5=>?_);refine zd6 64 #[.tmp 29,.tmp 30,.tmp 31] #[112,9,129] (by rfl) #[.pointer (some ⟨s,0,none⟩),.string t,.slice (some ⟨ge,0,none⟩) ne ne] (by simp[Act.eval,Act.put]) (fun vs w'=>BkO w0 pl Q (pa x) (pq x) Ow1 w1 s X v ra rb O1 O2 ne t.data.toList (fun q=>q<64*ne/\zae ET q=true) (.returned vs) w') (zha _ _) (hbk.mono (by
     rintro e w' hB;obtain⟨Ow3,X3,high,tt,gs,b',O,S,pv,ps,rfl,rest⟩:=hB;exact⟨_,rfl,Ow3,X3,high,tt,gs,b',O,S,pv,ps,rfl,rest⟩)) ?_
   rintro vs W3 ⟨Ow3,X3,high,tt,gs,b',O,S,pv,ps,hvs,h3,hc3,hox,hxo,T,hh⟩;cases hvs;refine hK5 _ _ (fun e=>by simp at e) ?_;clear hK5 K5;refine zcu _ _ _ (by simp) (fun _ _ h=>h) ?_;simp only[zrQ,List.map_nil];have hT3:=hWb.trans (h3.plT (hc3 _ _ hch));have hb63:W3.heap[W4.heap.size]?=_:=(fre _ hT3 (by omega) hB6l (HS1.out.fr _ (.inr (.inr (.inl rfl))))).trans HS1.out.c6;have hlk3:W3.heap[W0.heap.size]?=_:=(fre _ hT3 (by omega) hlkl hlkf).trans hlkY;have htx3:W3.heap[w.heap.size+1]?=_:=(fre _ hT3 (by omega) h1l (HS1.out.fr _ (.inl (.inr (.inl rfl))))).trans ((HS1.out.fx _ (.inr (.inl rfl))).trans Hx1.out);have hYw1:Y.heap.size<=w1.heap.size:=hT1.size;have hgsw:=T.gw;have hgsY:Y.heap.size<=gs:=by omega
   have hgs3:gs<W3.heap.size:=T.sp.glt;have hgs6:gs≠W4.heap.size:=by omega
   have hgsf:=(ze6 hso hox hxo hgsw T.ng).1;have hul:t.data.toList.length=t.size:=by simp
   have HSt:Hid (∀q,zae S q=true↔∃e,TlP t.data.toList t.size (ls.drop (x+1)) e/\Lg t.data.toList (pq x) q e):=fun q=>by
    rw[zdk hso.inv (HQ.out x hx) T (fun m hm=>by rw[hul];exact((hEq m).1 hm.2).le) q];exact exists_congr fun e=>and_congr ⟨fun z=>(hEq e).1 z.2,fun z=>⟨by have:=z.le;omega,(hEq e).2 z⟩⟩ Iff.rfl
   have HTl:Hid (∀q,TlP t.data.toList t.size (ls.drop x) q↔zae S q=true\/(po x=true/\q=t.size)):=fun q=>by
    rw[Hdr.out x hx,HSt.out q];exact Iff.rfl
   -- what the round leaves,with its next ends
   have Hend:Hid (∀(W9:World) (S9:Nat->Nat),zan (fun k=>k=W4.heap.size\/k=gs) W3 W9->zaJ W3 W9->W9.heap[W4.heap.size]?=some (.cells #[.slice (some ⟨gs,0,none⟩) ne ne] 129 (0,0))->zal W9 ne gs S9->(∀q,zae S9 q=true↔TlP t.data.toList t.size (ls.drop x) q)->ziU WL.heap.size W W9/\(∀k∈[W5.heap.size,go],W9.heap[k]?=W.heap[k]?)/\∃(Ow':Nat->Nat->Prop) (ge:Nat) (ET:Nat->Nat) (gx:Nat->Nat) (TT:Nat->Nat->Nat) (arr:Array Value),TlS w0 pl Q Ow w ls t.data.toList t.size ne n W1.heap.size W4.heap.size WL.heap.size (fun k=>k=w.heap.size\/k=w.heap.size+1\/k=W2.heap.size\/k=W5.heap.size) WL W9 (pre++[(⟨x,hx⟩:BelN n)]).length (pre++[(⟨x,hx⟩:BelN n)]).length Ow' ge ET gx TT arr):=by
    intro W9 S9 tc9 km9 c9 p9 b9;have hHY:WL.heap.size+1<Y.heap.size:=by omega
    have hn9:=HS1.out.next Hnx.out hT3 tc9 km9 hgsY hgsf hHY c9 p9 b9;have hl9:(pre++[(⟨x,hx⟩:BelN n)]).length=m+1:=by rw[zrK,List.length_singleton,Hm.out]
    have hn9':=hn9;rw[<-hl9] at hn9';have k9:∀k,w.heap.size<=k->k<Y.heap.size->(∀b,¬Ow' k b)->k≠W4.heap.size->W9.heap[k]?=Y.heap[k]?:=fun k q1 q2 q3 q4=>(tc9.same k (by have:=hT3.size;omega) (by omega)).trans (fre k hT3 q1 q2 q3)
    have hB6H:=HS1.out.noH HS1.out.c6;refine⟨⟨(k9 _ (by omega) (by omega) (HS1.out.fr _ (.inr (.inr (.inr (.inl rfl))))) hB6H.1.symm).trans HkL.out.1,(k9 _ (by omega) hHY (HS1.out.fr _ (.inr (.inr (.inr (.inr rfl))))) hB6H.2.symm).trans HkL.out.2⟩,fun k hk=>?_,⟨_,_,_,_,_,_,hn9'⟩⟩
    ·simp at hk;rcases hk with rfl|hk
     ·obtain⟨f0,f1,f2,f3,f4⟩:=HS1.out.fl _ (.inr (.inr (.inr rfl)));exact(k9 _ f0 f1 (HS1.out.fr _ (.inl (.inr (.inr (.inr rfl))))) f3).trans (HT.out _ (by simp))
     ·rw[hk,Hgo.out _ _ hn9.pt.inv,<-HT.out go (by simp),Hgo.out _ _ HS1.out.pt.inv]
   have k1:=(za1 T.box).2.1;have k6:W3.cell? ⟨W4.heap.size,0,none⟩=some (.slice (some ⟨ge,0,none⟩) ne ne):=(zsm _ _ _ _ _ _ hb63:_=_);have f6:=zso _ _ 0 _ _ hb63;have hb64:=zsr W3 W4.heap.size 0 _ _ (.slice (some ⟨gs,0,none⟩) ne ne) hb63;obtain⟨Z,hZ⟩:∃Z,W3.setCell ⟨W4.heap.size,0,none⟩ (.slice (some ⟨gs,0,none⟩) ne ne)=Z:=⟨_,rfl⟩;rw[hZ] at hb64;have hZk:∀k,k≠W4.heap.size->Z.heap[k]?=W3.heap[k]?:=fun k e=>by rw[<-hZ];exact zsq _ _ _ _ (show k≠W4.heap.size from e)
   have tcZ:zan (fun k=>k=W4.heap.size\/k=gs) W3 Z:=⟨by rw[<-hZ];rfl,by rw[<-hZ];rfl,by rw[<-hZ];rfl,by rw[<-hZ];simp,fun k _ e=>hZk k (fun e2=>e (.inl e2))⟩;have kmZ:zaJ W3 Z:=fun mg f e=>(hZk mg (fun e2=>by rw[e2,hb63] at e;exact absurd (zad e) (by decide))).trans e
   have pZ:zal Z ne gs S:=⟨(hZk gs hgs6).trans T.sp.row,T.sp.lt⟩;have z1:=(zay ((hZk _ (fun e=>by rw[e,hb63] at hlk3;exact absurd (zad hlk3) (by decide))).trans hlk3)).2;have zt:Z.cell? ⟨w.heap.size+1,0,none⟩=some (.string t):=(zsm _ _ _ _ _ _ ((hZk _ (fun e=>by rw[e,hb63] at htx3;exact absurd (zad htx3) (by decide))).trans htx3):_=_);have z6:Z.cell? ⟨W4.heap.size,0,none⟩=some (.slice (some ⟨gs,0,none⟩) ne ne):=(zsm _ _ _ _ _ _ hb64:_=_);have Hb64:=hidF hb64;have HtcZ:=hidF tcZ;have HkmZ:=hidF kmZ;have HpZ:=hidF pZ;clear hbk hso hch hT1 hE1 hXge hEn hEq T h3 hc3 hox hxo hh hT3 hb63 hlk3 htx3 hZk tcZ kmZ pZ hb64 fre Hlk H6 H1 hpr hnon hWb HS1 HSt hlkf hlkY;go_wp2;rw[za5];clear hZ k1 k6 f6;obtain⟨ob,hob⟩:∃ob,Hid (po x=ob):=⟨_,rfl⟩;rw[hob.out] at z1;cases ob with
   |false=>
    have HF:=hidF (Hend.out Z S HtcZ.out HkmZ.out Hb64.out HpZ.out (fun q=>by rw[HTl.out q,hob.out];simp));clear Hend
    gi_wp2
    exact HF.out
   |true=>
    have hadd:=zdH ne gs ne S t.size Z HpZ.out.row hnt (by omega) HpZ.out.lt
    gi_wp2_with (refine⟨trivial,?_⟩;gi_at_call 91;refine(CallsIn.inRound l (callsIn_wide.2 hadd)).mono ?_;rintro e9 W9 ⟨rfl,hr9,hg9⟩)
    have tc9:zan (fun k=>k=W4.heap.size\/k=gs) W3 W9:=HtcZ.out.grown hg9 (fun k e=>by cases e;exact .inl (.inr rfl));exact Hend.out W9 (addT S t.size) tc9 (HkmZ.out.trans fun mg f e=>(hg9.block mg (zrc.1 e).1 (fun e2=>by cases e2;rw[HpZ.out.row] at e;exact absurd (zad e) (by decide))).trans e) ((hg9.block _ (zrc.1 Hb64.out).1 (fun e=>by cases e;exact hgs6 rfl)).trans Hb64.out) ⟨hr9,zeq S HpZ.out.lt _⟩ (fun q=>by
     rw[HTl.out q,zdn,zrg,hob.out];simp)
end Go.Proofs.YthdljcdbfmhleaaGreatDoor
