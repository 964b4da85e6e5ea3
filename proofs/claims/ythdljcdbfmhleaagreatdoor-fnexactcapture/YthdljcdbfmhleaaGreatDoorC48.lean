import Derived.Test.YthdljcdbfmhleaaGreatDoorC47
namespace Go.Proofs.YthdljcdbfmhleaaGreatDoor
set_option maxHeartbeats 4000000
set_option maxRecDepth 100000
section
open Go
section
variable {P:Program} {ops:Array Oper} {md:Region.Mode} {C:World->Prop} {Q:Exit->Act->World->Prop}
theorem zfw{l:Array Bool}{i t:Nat}(h:l.getD t true=true):(l.setIfInBounds i true).getD t true=true:=by
 by_cases e:i=t
 ·subst e;rcases zsd i l.size with h'|h'
  ·simp[h']
  ·simp
 ·rw[zbV e];exact h
theorem zej{t:Nat}:∀(fuel:Nat) (listed:Array Bool) (a:Act) (w:World),listed.getD t true=true->wpAny P md ops Q fuel listed a w->zcY P md ops C t Q fuel listed a w
 |0,_,_,_,_,h=>h
 |fuel+1,listed,a,w,ht,h=>⟨h.1,fun i hi=>wpOp_mono (fun a' w' k=>⟨fun e=>by(rw[zfw ht] at e;cases e),zej fuel _ a' w' (zfw ht) k⟩) (h.2 i hi)⟩
def QK(Q:Exit->Act->World->Prop)(K:Act->World->Prop):Exit->Act->World->Prop
 |.normal,a,w=>K a w
 |e,a,w=>Q e a w
def zb4(l:Array Bool):List Nat->Array Bool
 |[]=>l
 |i::is=>zb4 (l.setIfInBounds i true) is
def zfv(md:Region.Mode)(ops:Array Oper):List Nat->Array Bool->Bool
 |[],_=>true
 |j::js,listed=>(Region.ready md ops listed == [j])&&zfv md ops js (listed.setIfInBounds j true)
theorem zra{K' K:Act->World->Prop}{o:Oper}{a:Act}{w:World}(h:o.wp P a w K (QK Q K')):o.wp P a w K Q:=by
 unfold Oper.wp at *;generalize (execOp a.eval o).run P w=r at *;cases r with
 |ok n w'=>cases n<;>exact h
 |halt x w'=>cases x<;>exact h
theorem zek{fr:Nat}(hL:∀a w,¬Q .outgrown a w):∀(js:List Nat) (l:List Oper) (listed:Array Bool) (a:Act) (w:World),l.length=js.length->(∀k,k<js.length->∃j o,js[k]?=some j/\l[k]?=some o/\ops[j]?=some o)->zfv md ops js listed=true->wpList P ops (QK Q (fun a w=>wpAny P md ops Q fr (zb4 listed js) a w)) l a w->wpAny P md ops Q (js.length+fr) listed a w
 |[],[],listed,a,w,_,_,_,h=>by rw[zrN,zsi];exact h
 |j::js,o::l,listed,a,w,hl,ho,hB,h=>by
  simp only[zfv,zrf,beq_iff_eq] at hB;obtain⟨j',o',e1,e2,h0⟩:=ho 0 (by simp);simp at e1 e2;subst e1;subst e2;have ih:=fun a w h=>zek (fr:=fr) hL js l (listed.setIfInBounds j true) a w (by simpa using hl) (fun k hk=>by have:=ho (k+1) (by simp;omega);simpa using this) hB.2 h
  rw[show (j::js).length+fr=(js.length+fr)+1 by simp;omega];refine⟨fun e=>absurd e (by rw[hB.1];simp),fun i hi=>?_⟩;rw[hB.1] at hi;have e:i=j:=by simpa using hi
  subst e;unfold wpOp;simp only[h0];unfold wpList at h
  by_cases hw:Region.wanted o (yielded ops a.tmps)=true
  ·rw[zst hw] at h ⊢;rcases h with h|h
   ·exact .inl (Oper.wp_mono (fun a w h=>ih a w h) (zra h))
   ·obtain⟨_,a',w',h'⟩:=h;exact absurd h' (hL a' w')
  ·rw[zss hw] at h ⊢;exact ih _ _ h
 |[],_::_,_,_,_,h,_,_,_=>by simp at h
 |_::_,[],_,_,_,h,_,_,_=>by simp at h
def zfY(o:Oper):Bool:=match o.op with
 |.move _=>true
 |.assign _=>true
 |.load _ _=>true
 |.fieldAddr _ _ _=>true
 |.indexAddr _ _ _=>true
 |.binOp _ _ _ _ _=>true
 |.nilCheck _=>true
 |.slice _ _ _ _ _=>true
 |_=>false
theorem zjY{o:Oper}(h:zfY o=true){ρ:Operand->Value}{w w':World}{n:Next}(hr:(execOp ρ o).run P w=.ok n w'):∃u,n=.value u:=by
 obtain⟨dst,op,type,pos,after,guard⟩:=o;cases op<;>simp only[zfY,Bool.false_eq_true] at h
 all_goals (simp only[execOp] at hr)
 case move x=>rw[Sem.run_pure] at hr;injection hr with h1;exact⟨_,h1.symm⟩
 case assign x=>rw[Sem.run_pure] at hr;injection hr with h1;exact⟨_,h1.symm⟩
 case nilCheck x=>
  split at hr
  case h_4=>
   split at hr
   case h_1=>simp[runtimePanic,go_sem] at hr
   case h_2=>
    simp only[Sem.run_bind] at hr;generalize Sem.run P program w=r1 at hr;cases r1 with
    |halt x w1=>simp[Result.andThen] at hr
    |ok a w1=>
     simp only[Result.andThen] at hr;generalize Sem.run P (nilAhead _ _ _ _) w1=r2 at hr;cases r2 with
     |halt x w2=>simp at hr
     |ok b w2=>
      simp only at hr;split at hr
      ·simp[unsupported,go_sem] at hr
      ·rw[Sem.run_pure] at hr;injection hr with h1;exact⟨_,h1.symm⟩
   case h_3=>rw[Sem.run_pure] at hr;injection hr with h1;exact⟨_,h1.symm⟩
  case h_5=>rw[Sem.run_pure] at hr;injection hr with h1;exact⟨_,h1.symm⟩
  all_goals (simp[runtimePanic,go_sem] at hr)
 all_goals exact ziD hr
theorem zdz{o:Oper}{a:Act}{K:Act->Prop}(hb:zfY o=true)(hw:Region.wanted o (yielded ops a.tmps)=true)(h:o.quiet P a C K):∃v,zbl P ops C o v a/\K (a.put o.dst v):=by
 obtain⟨v,h1,h2⟩:=h;refine⟨v,.inl ⟨hw,fun w hC=>?_⟩,h2⟩;have h3:=h1 w hC;unfold Oper.quietAt at h3;cases hr:(execOp a.eval o).run P w with
 |ok n w'=>
  obtain⟨u,rfl⟩:=zjY hb hr;rw[hr] at h3;obtain⟨e1,e2⟩:=h3;rw[e1,e2]
 |halt x w'=>rw[hr] at h3;exact h3.elim
def lexK(md:Region.Mode)(ops:Array Oper)(js:List Nat):List Nat->Array Bool->Bool
 |[],listed=>zfv md ops js listed
 |i::is,listed=>(Region.ready md ops listed).contains i&&Region.free md ops listed i&&lexK md ops js is (listed.setIfInBounds i true)
theorem zgS{t:Nat}:∀(js:List Nat) (l:Array Bool),(t∈js\/l.getD t true=true)->(zb4 l js).getD t true=true
 |[],_,h=>by
  rcases h with h|h
  ·cases h
  ·exact h
 |j::js,l,h=>by
  refine zgS js _ ?_;rcases h with h|h
  ·rcases zrS.1 h with e|e
   ·subst e;refine .inr ?_;rcases zsd t l.size with h'|h'
    ·simp[h']
    ·simp
   ·exact .inl e
  ·exact .inr (zfw h)
theorem zgi{t fr:Nat}{js:List Nat}{lj:List Oper}(hs:Region.noSelect ops=true)(hL:∀a w,¬Q .outgrown a w)(hlj:lj.length=js.length)(hoj:∀k,k<js.length->∃j o,js[k]?=some j/\lj[k]?=some o/\ops[j]?=some o)(hQ:∀c a a' w,Q (.panic c) a w->Q (.panic c) a' w)(hjs:∃r,js=t::r):
  ∀(is:List Nat) (l:List Oper) (listed:Array Bool) (a:Act) (w:World),za9 md ops listed->l.length=is.length->(∀k,k<is.length->∃i o,is[k]?=some i/\l[k]?=some o/\ops[i]?=some o/\zfY o=true/\zbI md ops 8 t i=true/\t≠i)->
   lexK md ops js is listed=true->C w->wpQuiet P ops C (fun a'=>∀w',C w'->∀r,r=lj->wpList P ops (QK Q (fun a w=>wpAny P md ops Q fr (zb4 listed (is++js)) a w)) r a' w') l a->zcY P md ops C t Q (is.length+(js.length+fr)) listed a w
 |[],[],listed,a,w,hcl,_,_,hB,hC,h=>by
  rw[zrN,zsi];have h1:=zek (fr:=fr) hL js lj listed a w hlj hoj hB (h w hC _ rfl);obtain⟨r,hr⟩:=hjs
  -- t is at the head: it is the one that is ready
  subst hr;simp only[lexK,zfv,zrf,beq_iff_eq] at hB;rw[show (t::r).length+fr=(r.length+fr)+1 by simp;omega] at h1 ⊢;refine⟨h1.1,fun i hi=>?_⟩;have e:i=t:=by rw[hB.1] at hi;simpa using hi
  subst e;have ht:(listed.setIfInBounds i true).getD i true=true:=zgS [i] listed (.inl (by simp));exact wpOp_mono (fun a' w' k=>⟨fun e=>by(rw[ht] at e;cases e),zej _ _ a' w' ht k⟩) (h1.2 i hi)
 |i::is,o::l,listed,a,w,hcl,hll,hio,hB,hC,h=>by
  obtain⟨i',o',e1,e2,h0,hrd,hwt,hti⟩:=hio 0 (by simp);simp at e1 e2;subst e1;subst e2;simp only[lexK,zrf] at hB;obtain⟨⟨hr,hf⟩,hB'⟩:=hB;have hr':i∈Region.ready md ops listed:=by simpa using hr
  have next:∀v,zbl P ops C o v a->wpQuiet P ops C (fun a'=>∀w',C w'->∀r,r=lj->wpList P ops (QK Q (fun a w=>wpAny P md ops Q fr (zb4 listed ((i::is)++js)) a w)) r a' w') l (a.put o.dst v)->zcY P md ops C t Q ((i::is).length+(js.length+fr)) listed a w:=fun v hy hk=>by
   have ih:=zgi (fr:=fr) hs hL hlj hoj hQ hjs is l (listed.setIfInBounds i true) (a.put o.dst v) w (hcl.set hr') (by simpa using hll) (fun k hk=>by have:=hio (k+1) (by simp;omega);simpa using this) hB' hC hk;rw[show (i::is).length+(js.length+fr)=(is.length+(js.length+fr))+1 by simp;omega];exact zdX h0 hti (fun L hc hl=>zbg hc 8 t i hl hwt) (Region.noSelect_spec hs) hQ _ listed a w hcl (Region.free_spec h0 hf) hr' hy hC ih
  unfold wpQuiet at h
  by_cases hw:Region.wanted o (yielded ops a.tmps)=true
  ·rw[zst hw] at h;obtain⟨v,hy,hk⟩:=zdz hrd hw h;exact next v hy hk
  ·rw[zss hw] at h;exact next undef (.inr ⟨by simpa using hw,rfl⟩) h
 |[],_::_,_,_,_,_,h,_,_,_,_=>by simp at h
 |_::_,[],_,_,_,_,h,_,_,_,_=>by simp at h
def zpX(md:Region.Mode)(all:List Oper)(done:List Nat):Bool:=lexD md all.toArray done (Array.replicate all.length false)
 where lexD (md:Region.Mode) (ops:Array Oper):List Nat->Array Bool->Bool
 |[],_=>true
 |i::is,listed=>(Region.ready md ops listed).contains i&&lexD md ops is (listed.setIfInBounds i true)
theorem zgz:∀(is:List Nat) (l:Array Bool),zpX.lexD md ops is l=true->za9 md ops l->za9 md ops (zb4 l is)
 |[],_,_,h=>h
 |i::is,l,hB,h=>by
  simp only[zpX.lexD,zrf] at hB;exact zgz is _ hB.2 (h.set (by simpa using hB.1))
def phaB(md:Region.Mode)(all:List Oper)(done is js:List Nat):Bool:=
 Region.noSelect all.toArray&&zpX md all done&&(match js with | []=>false|t::_=>is.all (fun i=>zbI md all.toArray 8 t i&&decide (t≠i)&&(match all[i]? with|some o=>zfY o|none=>false)))&&lexK md all.toArray js is (zb4 (Array.replicate all.length false) done)&&js.all (fun j=>decide (j<all.length))
theorem zbR(done is js:List Nat)(fr:Nat){a:Act}{w:World}{all:List Oper}(C:World->Prop)(hC:C w)(hB:phaB md all done is js=true)(hL:∀a w,¬Q .outgrown a w)(hQ:∀c a a' w,Q (.panic c) a w->Q (.panic c) a' w)
  (h:∀l,l=is.filterMap (fun i=>all[i]?)->wpQuiet P all.toArray C (fun a'=>∀w',C w'->∀r,r=js.filterMap (fun j=>all[j]?)->wpList P all.toArray (QK Q (fun a w=>wpAny P md all.toArray Q fr (zb4 (zb4 (Array.replicate all.length false) done) (is++js)) a w)) r a' w') l a) (n:Nat) (hn:n=is.length+(js.length+fr)):wpAny P md all.toArray Q n (zb4 (Array.replicate all.length false) done) a w:=by
 subst hn;cases js with
 |nil=>simp[phaB] at hB
 |cons t rs=>
  simp only[phaB,zrf,zrj,zsn] at hB;obtain⟨⟨⟨⟨hs,hcl⟩,hi⟩,hlx⟩,hj⟩:=hB;have key:∀(is:List Nat),(∀x∈is,(zbI md all.toArray 8 t x=true/\t≠x)/\(match all[x]? with|some o=>zfY o|none=>false)=true)->(is.filterMap (fun i=>all[i]?)).length=is.length/\∀k,k<is.length->∃i o,is[k]?=some i/\(is.filterMap (fun i=>all[i]?))[k]?=some o/\all.toArray[i]?=some o/\zfY o=true/\zbI md all.toArray 8 t i=true/\t≠i:=by
   intro is
   induction is with
   |nil=>intro _;exact⟨rfl,fun k hk=>absurd hk (zsg _)⟩
   |cons i is ih=>
    intro hx;obtain⟨⟨q1,q2⟩,q3⟩:=hx i (by simp);obtain⟨r1,r2⟩:=ih (fun x hxm=>hx x (by simp[hxm]));cases ho:all[i]? with
    |none=>rw[ho] at q3;cases q3
    |some o=>
     rw[ho] at q3;have e:(i::is).filterMap (fun i=>all[i]?)=o::is.filterMap (fun i=>all[i]?):=by simp[ho]
     rw[e];refine⟨by simp[r1],fun k hk=>?_⟩;cases k with
     |zero=>exact⟨i,o,rfl,rfl,by simpa using ho,q3,q1,q2⟩
     |succ k=>simpa using r2 k (by simpa using hk)
  have keyj:∀(js:List Nat),(∀j∈js,j<all.length)->(js.filterMap (fun j=>all[j]?)).length=js.length/\∀k,k<js.length->∃j o,js[k]?=some j/\(js.filterMap (fun j=>all[j]?))[k]?=some o/\all.toArray[j]?=some o:=by
   intro js
   induction js with
   |nil=>intro _;exact⟨rfl,fun k hk=>absurd hk (zsg _)⟩
   |cons j js ih=>
    intro hx;obtain⟨r1,r2⟩:=ih (fun x hxm=>hx x (by simp[hxm]));have hl:=hx j (by simp);have e:(j::js).filterMap (fun j=>all[j]?)=all[j]::js.filterMap (fun j=>all[j]?):=by simp[hl]
    rw[e];refine⟨by simp[r1],fun k hk=>?_⟩;cases k with
    |zero=>exact⟨j,all[j],rfl,rfl,by simp[hl]⟩
    |succ k=>simpa using r2 k (by simpa using hk)
  obtain⟨k1,k2⟩:=key is (fun x hx=>by obtain⟨⟨a1,a2⟩,a3⟩:=hi x hx;exact⟨⟨a1,a2⟩,a3⟩);obtain⟨j1,j2⟩:=keyj (t::rs) hj;exact zds _ _ _ _ (zgi (P:=P) (C:=C) (Q:=Q) (md:=md) (fr:=fr) hs hL j1 j2 hQ ⟨rs,rfl⟩ is _ _ a w (zgz done _ hcl (za9.start _ _)) k1 k2 hlx hC (h _ rfl))
theorem zb1{Q:Exit->Act->World->Prop}{K:Act->World->Prop}{a:Act}{w:World}:QK Q K .normal a w=K a w:=rfl
theorem zgl{id:Nat}{a:Act}{w:World}{all:List Oper}(hm:P.follows .mixedOrders=true)(h:wpAny P .any all.toArray (zfj Q) all.length (zb4 (Array.replicate all.length false) []) a w.drew):(Code.region id all.toArray true).wp P Q a w:=by
 refine wp_mono (wp_region_any hm ?_) zcc
 simpa [zb4] using h
def zm3(md:Region.Mode)(ops:Array Oper)(js:List Nat):List Nat->Array Bool->Bool
 |[],listed=>zey md ops js listed&&(List.range ops.size).all (fun k=>listed.getD k true || js.contains k)
 |i::is,listed=>(Region.ready md ops listed).contains i&&Region.free md ops listed i&&zm3 md ops js is (listed.setIfInBounds i true)
def zp7(md:Region.Mode)(all:List Oper)(is js:List Nat)(t:Nat):Bool:=
 Region.noSelect all.toArray&&is.all (fun i=>zbI md all.toArray 8 t i&&decide (t≠i)&&(match all[i]? with|some o=>zfY o|none=>false))&&zm3 md all.toArray js is (Array.replicate all.length false)&&decide (is.length+js.length=all.length)&&js.all (fun j=>decide (j<all.length))
theorem ze1{t:Nat}{js:List Nat}{lj:List (Nat×Oper)}(hs:Region.noSelect ops=true)(hlj:lj.map Prod.fst=js)(hoj:∀x∈lj,ops[x.1]?=some x.2)(hQ:∀c a a' w,Q (.panic c) a w->Q (.panic c) a' w):
  ∀(is:List Nat) (l:List Oper) (listed:Array Bool) (a:Act) (w:World),za9 md ops listed->listed.size=ops.size->l.length=is.length->(∀k,k<is.length->∃i o,is[k]?=some i/\l[k]?=some o/\ops[i]?=some o/\zfY o=true/\zbI md ops 8 t i=true/\t≠i)->
   zm3 md ops js is listed=true->C w->wpQuiet P ops C (fun a'=>∀w',C w'->∀r,r=lj->zbr P ops C t Q r a' w') l a->zcY P md ops C t Q (is.length+lj.length) listed a w
 |[],[],listed,a,w,hcl,hsz,_,_,hB,hC,h=>by
  simp only[zm3,zrf,zrj,zrX,zrg,List.contains_iff_mem] at hB;rw[zrN,zsi];refine zcz js lj listed a w hlj hoj (fun k hk=>?_) hB.1 (h w hC _ rfl);have hlt:k<ops.size:=by
   rcases zsd k ops.size with h'|h'
   ·exact h'
   ·rw[<-hsz] at h';simp[Array.getElem?_eq_none h'] at hk
  rcases hB.2 k hlt with h1|h1
  ·rw[hk] at h1;cases h1
  ·exact h1
 |i::is,o::l,listed,a,w,hcl,hsz,hll,hio,hB,hC,h=>by
  obtain⟨i',o',e1,e2,h0,hrd,hwt,hti⟩:=hio 0 (by simp);simp at e1 e2;subst e1;subst e2;simp only[zm3,zrf] at hB;obtain⟨⟨hr,hf⟩,hB'⟩:=hB;have hr':i∈Region.ready md ops listed:=by simpa using hr
  have next:∀v,zbl P ops C o v a->wpQuiet P ops C (fun a'=>∀w',C w'->∀r,r=lj->zbr P ops C t Q r a' w') l (a.put o.dst v)->zcY P md ops C t Q ((i::is).length+lj.length) listed a w:=fun v hy hk=>by
   have ih:=ze1 hs hlj hoj hQ is l (listed.setIfInBounds i true) (a.put o.dst v) w (hcl.set hr') (by simpa using hsz) (by simpa using hll) (fun k hk=>by have:=hio (k+1) (by simp;omega);simpa using this) hB' hC hk;rw[show (i::is).length+lj.length=(is.length+lj.length)+1 by simp;omega];exact zdX h0 hti (fun L hc hl=>zbg hc 8 t i hl hwt) (Region.noSelect_spec hs) hQ _ listed a w hcl (Region.free_spec h0 hf) hr' hy hC ih
  unfold wpQuiet at h
  by_cases hw:Region.wanted o (yielded ops a.tmps)=true
  ·rw[zst hw] at h;obtain⟨v,hy,hk⟩:=zdz hrd hw h;exact next v hy hk
  ·rw[zss hw] at h;exact next undef (.inr ⟨by simpa using hw,rfl⟩) h
 |[],_::_,_,_,_,_,_,h,_,_,_,_=>by simp at h
 |_::_,[],_,_,_,_,_,h,_,_,_,_=>by simp at h
theorem zl5(is js:List Nat)(t:Nat){a:Act}{w:World}{all:List Oper}(C:World->Prop)(hC:C w)(hB:zp7 .any all is js t=true)(hQ:∀c a a' w,Q (.panic c) a w->Q (.panic c) a' w)
  (h:∀l,l=is.filterMap (fun i=>all[i]?)->wpQuiet P all.toArray C (fun a'=>∀w',C w'->∀r,r=js.filterMap (fun j=>(all[j]?).map fun o=>(j,o))->zbr P all.toArray C t Q r a' w') l a):wpAny P .any all.toArray Q all.toArray.size (Array.replicate all.toArray.size false) a w:=by
 simp only[zp7,zrf,zrj,zsn] at hB;obtain⟨⟨⟨⟨hs,hi⟩,hlx⟩,hlen⟩,hj⟩:=hB;have key:∀(is:List Nat),(∀x∈is,(zbI .any all.toArray 8 t x=true/\t≠x)/\(match all[x]? with|some o=>zfY o|none=>false)=true)->(is.filterMap (fun i=>all[i]?)).length=is.length/\∀k,k<is.length->∃i o,is[k]?=some i/\(is.filterMap (fun i=>all[i]?))[k]?=some o/\all.toArray[i]?=some o/\zfY o=true/\zbI .any all.toArray 8 t i=true/\t≠i:=by
  intro is
  induction is with
  |nil=>intro _;exact⟨rfl,fun k hk=>absurd hk (zsg _)⟩
  |cons i is ih=>
   intro hx;obtain⟨⟨q1,q2⟩,q3⟩:=hx i (by simp);obtain⟨r1,r2⟩:=ih (fun x hxm=>hx x (by simp[hxm]));cases ho:all[i]? with
   |none=>rw[ho] at q3;cases q3
   |some o=>
    rw[ho] at q3;have e:(i::is).filterMap (fun i=>all[i]?)=o::is.filterMap (fun i=>all[i]?):=by simp[ho]
    rw[e];refine⟨by simp[r1],fun k hk=>?_⟩;cases k with
    |zero=>exact⟨i,o,rfl,rfl,by simpa using ho,q3,q1,q2⟩
    |succ k=>simpa using r2 k (by simpa using hk)
 have keyj:∀(js:List Nat),(∀j∈js,j<all.length)->(js.filterMap (fun j=>(all[j]?).map fun o=>(j,o))).map Prod.fst=js/\∀x∈js.filterMap (fun j=>(all[j]?).map fun o=>(j,o)),all.toArray[x.1]?=some x.2:=by
  intro js
  induction js with
  |nil=>intro _;exact⟨rfl,fun x hx=>by cases hx⟩
  |cons j js ih=>
   intro hx;obtain⟨r1,r2⟩:=ih (fun x hxm=>hx x (by simp[hxm]));have hl:=hx j (by simp);have e:(j::js).filterMap (fun j=>(all[j]?).map fun o=>(j,o))=(j,all[j])::js.filterMap (fun j=>(all[j]?).map fun o=>(j,o)):=by simp[hl]
   rw[e];refine⟨by simp[r1],fun x hxm=>?_⟩;rcases zrS.1 hxm with rfl|hxm
   ·simp[hl]
   ·exact r2 x hxm
 obtain⟨k1,k2⟩:=key is (fun x hx=>by
  obtain⟨⟨a1,a2⟩,a3⟩:=hi x hx;exact⟨⟨a1,a2⟩,a3⟩)
 obtain⟨j1,j2⟩:=keyj js hj;have hjl:(js.filterMap (fun j=>(all[j]?).map fun o=>(j,o))).length=js.length:=by rw[<-zrM (f:=Prod.fst),j1]
 have h1:=ze1 (P:=P) (C:=C) (Q:=Q) (md:=.any) (t:=t) hs j1 j2 hQ is _ (Array.replicate all.toArray.size false) a w (za9.start _ _) (by simp) k1 k2 (by simpa using hlx) hC (h _ rfl);have h2:=zds _ _ _ _ h1;rw[hjl,hlen] at h2
 simpa using h2
theorem zdE(is js:List Nat)(t:Nat){id:Nat}{a:Act}{w:World}{all:List Oper}(C:World->Prop)(hm:P.follows .mixedOrders=true)(hC:C w.drew)(hB:zp7 .any all is js t=true)
  (h:∀l,l=is.filterMap (fun i=>all[i]?)->wpQuiet P all.toArray C (fun a'=>∀w',C w'->∀r,r=js.filterMap (fun j=>(all[j]?).map fun o=>(j,o))->zbr P all.toArray C t (zfj Q) r a' w') l a):(Code.region id all.toArray true).wp P Q a w:=by
 refine wp_mono (wp_region_any hm ?_) zcc;exact zl5 (Q:=zfj Q) is js t C hC hB (fun _ _ _ _ h=>h.elim) h
end
end
open Go.RowKit
attribute [local go_sem ↓] Go.wp_at_zero Go.wp_at_succ
theorem zoX{P:Program}{o:Oper}{a:Act}{w:World}{K:Act->World->Prop}{Q:Exit->Act->World->Prop}(x:Operand)(xs:Array Operand)(ats:Array TypeId)
  (ho:o.op=.call {callee:=.value x,args:=xs,argTypes:=ats}) (f:FuncId) (caps:Array Value) (hx:a.eval x=.func (.func f) #[] caps) (args:Array Value) (hargs:(#[]++xs.map a.eval++caps:Array Value)=args) (R:Value->World->Prop) (hen:(callFunc f args).run P w=.ok (.enter f args) w)
  (hc:Calls P f args w fun e w'=>∃v,e=.returned v/\R v w') (h:∀v w',R v w'->K (a.put o.dst v) w'):Oper.wp P o a w K Q:=by
 obtain⟨dst,op,type,pos,after,guard⟩:=o;simp only at ho;subst ho;have e:execOp a.eval {dst,op:=.call {callee:=.value x,args:=xs,argTypes:=ats},type,pos,after,guard}=callFunc f (#[]++xs.map a.eval++caps):=by
  show (do let d <-Deferred.ofValue (a.eval x) (xs.map a.eval);invoke d.target d.args)=_;rw[hx]
  rfl
 unfold Oper.wp;rw[e,hargs,hen,Oper.upon_enter];refine hc.mono ?_;rintro e w' ⟨v,rfl,hR⟩;exact h v w' hR
def CapQ(G:Nat)(bs:List zaf)(t:ByteArray)(a e:Nat)(cl:Bool)(r:List (Int×Int)):Prop:=
 ((∀k,k<bs.length->¬za2 (bs.getD k .zero) t a e cl)/\r=[])\/∃k,k<bs.length/\(∀j,j<k->¬za2 (bs.getD j .zero) t a e cl)/\za2 (bs.getD k .zero) t a e cl/\∃l,Pl t.data.toList (tOf (bs.getD k .zero).nodes ((bs.getD k .zero).nodes.length-1)) a e l/\r=upG (zbZ ((a:Int),(e:Int)) G) l
theorem zlc{lo:Nat}(w wB:World)(hbB:Below w.heap.size w wB)(bs:List zaf)(ao:Option Addr)(cap:Nat)(hs:zaj lo w (.slice ao bs.length cap) bs)(hlen:bs.length<=100000)(G:Nat)(hG:G<=500)(pl:Nat)(Q:Nat->Option Pt)(vP:Value)(ps:List (Nat×Pt))(w0:World)(hN:NpS wB pl (.int .i64 (G:Int)) (.slice ao bs.length cap) w0 Q vP ps)(hB:zaY wB)(hpl:ps.length=bs.length)(t:ByteArray)(ht:t.size<=4096)(a e:Nat)(hae:a<=e)(het:e<=t.size)(cl:Bool)
  (hE:∀k,k<bs.length->Eqv (opQ ps k) (tOf (bs.getD k .zero).nodes ((bs.getD k .zero).nodes.length-1))) (hgr:∀k,k<bs.length->∀l,Pl t.data.toList (tOf (bs.getD k .zero).nodes ((bs.getD k .zero).nodes.length-1)) a e l->∀x∈l,1<=x.1/\x.1<((G+1:Nat):Int)):
  Calls Tryz.prog 23 #[.pointer (some ⟨pl,0,none⟩),.string t,.int .i64 a,.int .i64 e,.bool cl] w0 fun x w'=>∃r v,CapQ G bs t a e cl r/\x=.returned v/\w'.ownsRow w.heap.size 50 2 v r.length (pv r)/\Below w.heap.size w w':=by
 have hI0:=hN.start hB;obtain⟨ao2,cap2,hv2,hm2,hc⟩:=hs;cases hv2;have hlp:=(zrc.1 hN.xp).1;have cb:w0.cell? ⟨pl,1,none⟩=some (.slice ao bs.length cap):=(zsm _ _ _ _ _ _ hN.xp:_=_);have Hbel:Hid (∀W Ow,PnI w0 pl Q Ow W->Below w.heap.size w W/\wB.heap.size<=W.heap.size):=fun W Ow hI=>⟨zaa hbB hbB.size (hN.bel hI),(hN.bel hI).size⟩
 have Hlg:Hid (∀k,k<bs.length->(Lg t.data.toList (opQ ps k) a e↔In (tOf (bs.getD k .zero).nodes ((bs.getD k .zero).nodes.length-1)) ((t.data.toList.drop a).take (e-a)))):=fun k hk=>by
  unfold Lg;rw[(hE k hk).wd];have:t.data.toList.length=t.size:=by simp
  exact⟨fun h=>h.2.2,fun h=>⟨hae,by omega,h⟩⟩
 have Hat:Hid (∀k,k<bs.length->PcAt wB.heap.size w0 pl Q (opA ps k) (opQ ps k)):=fun k hk=>hN.kd.fin _ (zrW (zis (by omega)))
 have Hcell:Hid (∀W Ow,PnI w0 pl Q Ow W->∀k,k<bs.length->∃gp cp,vP=.slice (some ⟨gp,0,none⟩) bs.length cp/\W.cell? ⟨pl,2,none⟩=some (.slice (some ⟨gp,0,none⟩) bs.length cp)/\W.cell? ⟨gp,k,none⟩=some (.pointer (some ⟨opA ps k,0,none⟩))):=fun W Ow hI k hk=>by
  obtain⟨⟨room,h1⟩,h2⟩:=hN.cells hI;obtain⟨gp,cp,hv⟩:∃gp cp,vP=.slice (some ⟨gp,0,none⟩) ps.length cp:=by
   rcases h2.2 with ⟨_,e2⟩|⟨g,c,cur,e,_⟩
   ·omega
   ·exact⟨g,c,e⟩
  subst hv;exact⟨gp,cp,by rw[hpl],by have:=(za3 h1).1;rw[hpl] at this;exact this,zkI h2 (zis (by omega))⟩
 have Hg0:Hid (∀W Ow,PnI w0 pl Q Ow W->∃x2 x3,W.heap[pl]?=some (.cells #[.int .i64 (G:Int),.slice ao bs.length cap,x2,x3] 83 (0,0))):=fun W Ow hI=>by
  obtain⟨⟨room,h1⟩,_⟩:=hN.cells hI;exact⟨_,_,h1⟩
 have HI0:=hidF hI0;have HIw:=hidF hI0;have HE:=hidF hE;have Hgr:=hidF hgr;have hex:(t.extract a e).size=e-a:=by rw[ByteArray.size_extract];omega
 clear hI0 hE hgr hN hbB
 go_enter Tryz.func23,Tryz.ntmps23
 go_wp2;clear cb
 go_loopw [19] (fun iv wr=>∃(k:Nat) (Ow:Nat->Nat->Prop),iv=.int .i64 k/\k<=bs.length/\Hid (PnI w0 pl Q Ow wr)/\Hid (∀j,j<k->¬za2 (bs.getD j .zero) t a e cl))
  (fun iv _=>bs.length-(intOf iv).toNat)
 case atStart=>exact⟨0,_,rfl,zsj _,HI0,fun j hj=>absurd hj (zsg _)⟩
 case round=>
  clear HI0;obtain⟨k,Ow,rfl,hk,HI,HNo⟩:=hrel;have hbr:=(Hbel.out wr Ow HI.out).1
  by_cases hlt:k<bs.length
  ·obtain⟨b,o,nv,bd,rfl,Hn,hbl,c0,c1,c2,hnv⟩:=hc.elem hbr hlt;obtain⟨nao,ncap,rfl,hnm,hnc⟩:=hnv;clear hnc;have hk0:(0:Int)<=(k:Int):=by omega
   have hk1:(k:Int)<(bs.length:Int):=by omega
   obtain⟨V,hV⟩:∃V,wr.alloc (.cells #[.bool bd.bol,.bool bd.eol,.slice nao bd.nodes.length ncap] 41)=V:=⟨_,rfl⟩;have hbV:Below wr.heap.size wr V:=by rw[<-hV];exact(Below.refl _ _).alloc (zsa _) _
   have xV:V.heap[wr.heap.size]?=some (.cells #[.bool bd.bol,.bool bd.eol,.slice nao bd.nodes.length ncap] 41 (0,0)):=by rw[<-hV];exact zsp _ _
   obtain⟨d0,d1,d2,-,-,-⟩:=zac xV;have hsV:wr.heap.size<V.heap.size:=(zrc.1 xV).1;have HTV:=hidF (PnT.of_below HI.out hbV);have HxV:=hidF xV;have Hpl:Hid (zdd (bs.getD k .zero).bol (bs.getD k .zero).eol t.size a e cl=((a==0 || !bd.bol)&&((cl&&e==t.size) || !bd.eol))):=by show _=_;rw[Hn.out,zlS]
   clear hbV xV
   go_upto_region 4 with fail
   clear hV c0 c1 c2
   go_cut [47] from 24 to 47 (fun v47 wx=>∃(Ow':Nat->Nat->Prop) (bb:Bool),v47=.bool bb/\Hid (PnT w0 pl Q Ow wr Ow' wx)/\Hid (bb=true↔za2 (bs.getD k .zero) t a e cl))
   case first=>
    have hmb:Calls Tryz.prog 41 #[.agg #[.bool bd.bol,.bool bd.eol,.slice nao bd.nodes.length ncap],.int .i64 a] V.drew fun r w'=>∃v,r=.returned v/\v=.bool (a==0 || !bd.bol)/\Below V.drew.heap.size V.drew w':=(zjx bd.bol bd.eol nao bd.nodes.length ncap a V.drew).mono fun r w' h=>⟨_,h.1,rfl,h.2⟩
    have hT1:∀W1,Below V.drew.heap.size V.drew W1->Hid (PnT w0 pl Q Ow wr Ow W1):=fun W1 hb=>HTV.out.below (((Below.refl V.heap.size V).drew).trans hb)
    have hq1:∀W1,Below V.drew.heap.size V.drew W1->W1.cell? ⟨wr.heap.size,0,none⟩=some (.bool bd.bol)/\W1.cell? ⟨wr.heap.size,1,none⟩=some (.bool bd.eol)/\W1.cell? ⟨wr.heap.size,2,none⟩=some (.slice nao bd.nodes.length ncap):=fun W1 hb=>by
     obtain⟨f0,f1,f2,-,-,-⟩:=zac ((hb.block _ hsV).trans HxV.out);exact⟨f0,f1,f2⟩
    have hmix:Tryz.prog.follows .mixedOrders=true:=by kernel_rfl
    refine zgl hmix ?_;refine zbR [] [0,1] [2,3] 20 (fun w'=>w'=V.drew) rfl (by kernel_rfl) (fun _ _ h=>h) (fun _ _ _ _ h=>h.elim) ?_ _ rfl;intro os hos;simp only[zru,zrv,zrB,zrA] at hos;subst hos
    change wpQuiet _ _ _ _ [_,_] _
    repeat (go_big_quiet_step (fail))
    refine wpQuiet_nil ?_;rintro w' rfl r' hr';simp only[zru,zrv,zrB,zrA] at hr';subst hr'
    change wpList _ _ _ [_,_] _ _
    go_wp2_with fail
    refine hmb.mono ?_;rintro r1 W1 ⟨v1,rfl,rfl,hb1⟩;have HT1:=hT1 W1 hb1;obtain⟨f0,f1,f2⟩:=hq1 W1 hb1;clear hmb d0 d1 d2;cases hm1:(a==0 || !bd.bol)
    ·have HF:Hid (false=true↔za2 (bs.getD k .zero) t a e cl):=⟨fun h=>(by cases h),fun h=>by have:=h.1;rw[Hpl.out,hm1] at this;cases this⟩;go_wp2;rw[zb1];refine zbR [0,1,2,3] [4,5,6,7] [8,9,10] 13 (fun w'=>w'=W1) rfl (by kernel_rfl) (fun _ _ h=>h) (fun _ _ _ _ h=>h.elim) ?_ _ rfl;intro os hos;simp only[zru,zrv,zrB,zrA] at hos;subst hos
     change wpQuiet _ _ _ _ [_,_,_,_] _
     repeat (go_big_quiet_step (fail))
     refine wpQuiet_nil ?_;rintro w' hw' r' hr';replace hw':W1=w':=Eq.symm hw';subst hw';simp only[zru,zrv,zrB,zrA] at hr';subst hr'
     change wpList _ _ _ [_,_,_] _ _
     go_wp2;rw[zb1];refine zbR [0,1,2,3,4,5,6,7,8,9,10] [11,12,13,14,15,16,17,18,19,20,21] [22,23] 0 (fun w'=>w'=W1) rfl (by kernel_rfl) (fun _ _ h=>h) (fun _ _ _ _ h=>h.elim) ?_ _ rfl;intro os hos;simp only[zru,zrv,zrB,zrA] at hos;subst hos
     change wpQuiet _ _ _ _ [_,_,_,_,_,_,_,_,_,_,_] _
     repeat (go_big_quiet_step (fail))
     refine wpQuiet_nil ?_;rintro w' hw' r' hr';replace hw':W1=w':=Eq.symm hw';subst hw';simp only[zru,zrv,zrB,zrA] at hr';subst hr'
     change wpList _ _ _ [_,_] _ _
     go_wp2;rw[zb1];refine⟨by kernel_rfl,?_⟩;rw[za5];go_wp2
     go_meet
     exact⟨Ow,false,rfl,HT1,HF⟩
    ·have hme:Calls Tryz.prog 42 #[.agg #[.bool bd.bol,.bool bd.eol,.slice nao bd.nodes.length ncap],.string t,.int .i64 e,.bool cl] W1 fun r w'=>∃v,r=.returned v/\v=.bool ((cl&&e==t.size) || !bd.eol)/\Below W1.heap.size W1 w':=(zna bd.bol bd.eol cl nao bd.nodes.length ncap t e W1).mono fun r w' h=>⟨_,h.1,rfl,h.2⟩
     go_wp2;rw[zb1];refine zbR [0,1,2,3] [4,5,6,7] [8,9,10] 13 (fun w'=>w'=W1) rfl (by kernel_rfl) (fun _ _ h=>h) (fun _ _ _ _ h=>h.elim) ?_ _ rfl;intro os hos;simp only[zru,zrv,zrB,zrA] at hos;subst hos
     change wpQuiet _ _ _ _ [_,_,_,_] _
     repeat (go_big_quiet_step (fail))
     refine wpQuiet_nil ?_;rintro w' hw' r' hr';replace hw':W1=w':=Eq.symm hw';subst hw';simp only[zru,zrv,zrB,zrA] at hr';subst hr'
     change wpList _ _ _ [_,_,_] _ _
     go_wp2_with fail
     refine hme.mono ?_;rintro r2 W2 ⟨v2,rfl,rfl,hb2⟩;have HT2:=hidF (HT1.out.below hb2);clear hme f0 f1 f2;cases hm2:((cl&&e==t.size) || !bd.eol)
     ·have HF:Hid (false=true↔za2 (bs.getD k .zero) t a e cl):=⟨fun h=>(by cases h),fun h=>by have:=h.1;rw[Hpl.out,hm1,hm2] at this;cases this⟩;go_wp2;rw[zb1];refine zbR [0,1,2,3,4,5,6,7,8,9,10] [11,12,13,14,15,16,17,18,19,20,21] [22,23] 0 (fun w'=>w'=W2) rfl (by kernel_rfl) (fun _ _ h=>h) (fun _ _ _ _ h=>h.elim) ?_ _ rfl;intro os hos;simp only[zru,zrv,zrB,zrA] at hos;subst hos
      change wpQuiet _ _ _ _ [_,_,_,_,_,_,_,_,_,_,_] _
      repeat (go_big_quiet_step (fail))
      refine wpQuiet_nil ?_;rintro w' hw' r' hr';replace hw':W2=w':=Eq.symm hw';subst hw';simp only[zru,zrv,zrB,zrA] at hr';subst hr'
      change wpList _ _ _ [_,_] _ _
      go_wp2;rw[zb1];refine⟨by kernel_rfl,?_⟩;rw[za5];go_wp2
      go_meet
      exact⟨Ow,false,rfl,HT2,HF⟩
     ·obtain⟨gp,cp,hvP,k2,k3⟩:=Hcell.out W2 Ow HT2.out.inv k hlt;have hma:=zgL W2 HT2.out.inv (Hat.out k hlt).q (t.extract a e) (by rw[hex];omega);have i0:(0:Int)<=(a:Int):=by omega
      have i1:(a:Int)<=(e:Int):=by omega
      have i2:(e:Int)<=(t.size:Int):=by omega
      have Hpt:Hid (zdd (bs.getD k .zero).bol (bs.getD k .zero).eol t.size a e cl=true):=by show _=_;rw[Hpl.out,hm1,hm2];rfl
      go_wp2;rw[zb1];refine zbR [0,1,2,3,4,5,6,7,8,9,10] [11,12,13,14,15,16,17,18,19,20,21] [22,23] 0 (fun w'=>w'=W2) rfl (by kernel_rfl) (fun _ _ h=>h) (fun _ _ _ _ h=>h.elim) ?_ _ rfl;intro os hos;simp only[zru,zrv,zrB,zrA] at hos;subst hos
      change wpQuiet _ _ _ _ [_,_,_,_,_,_,_,_,_,_,_] _
      repeat (go_big_quiet_step (fail))
      refine wpQuiet_nil ?_;rintro w' hw' r' hr';replace hw':W2=w':=Eq.symm hw';subst hw';simp only[zru,zrv,zrB,zrA] at hr';subst hr'
      change wpList _ _ _ [_,_] _ _
      go_wp2_with fail
      refine hma.mono ?_;rintro r3 W3 ⟨Ow3,bb,rfl,hbb,hT3⟩;have HT3:=hidF (HT2.out.trans hT3);have HF:Hid (bb=true↔za2 (bs.getD k .zero) t a e cl):=by
       show _↔_;rw[hbb,zfp,hex];have h1:=zdx (u:=t.data.toList) (i:=a) (n:=e-a) (by simp;omega) (p:=opQ ps k) (a:=0) (b:=e-a) (zsa _);rw[zr9,show a+(e-a)=e from by omega] at h1;rw[h1,Hlg.out k hlt];exact⟨fun h=>⟨Hpt.out,h⟩,fun h=>h.2⟩
      clear hma hbb hT3 k2 k3;go_wp2;rw[zb1];refine⟨by kernel_rfl,?_⟩;rw[za5];go_wp2
      go_meet
      exact⟨Ow3,bb,rfl,HT3,HF⟩
   case rest=>
    obtain⟨Ow4,bb,rfl,HT4,HBb⟩:=hcut;cases bb with
    |false=>
     have HNo2:Hid (∀j,j<k+1->¬za2 (bs.getD j .zero) t a e cl):=fun j hj=>by
      by_cases ej:j=k
      ·subst ej;rw[<-HBb.out];simp
      ·exact HNo.out j (by omega)
     have HI4:=hidF HT4.out.inv;clear HT4 HTV HxV;go_wp2
     go_roundw
     case rel=>exact⟨k+1,Ow4,by go_num,by omega,HI4,HNo2⟩
     case measure=>simp[intOf];omega
    |true=>
     have hbel:=HBb.out.1 rfl;obtain⟨y2,y3,hy⟩:=Hg0.out wc Ow4 HT4.out.inv;have hno:=zlA pl G _ y2 y3 wc hy hG;have hlgk:Lg t.data.toList (opQ ps k) a e:=(Hlg.out k hlt).2 hbel.2;have HI4:=hidF HT4.out.inv
     go_wp2_with fail
     refine hno.mono ?_;rintro x5 W5 ⟨gs,rfl,hgs,own5,hb5⟩;have hpn:pv (List.replicate (G+1) ((-1:Int),(-1:Int)))=pv (List.replicate (G+1) (-1,-1)):=rfl;obtain⟨o1,q1⟩:=own5.stored (0*2) (.int .i64 a);obtain⟨o2,q2⟩:=o1.stored (0*2+1) (.int .i64 e);rw[znA _ _ _ _ (by simp)] at o2;have hnl:(List.replicate (G+1) ((-1:Int),(-1:Int))).set 0 ((a:Int),(e:Int))=zbZ ((a:Int),(e:Int)) G:=by simp[zbZ,List.replicate_succ]
     rw[hnl] at o2;simp only[Nat.zero_mul,zsi] at o1 o2 q1 q2;obtain⟨u0,u1,s0,s1,fz0,fz1⟩:=zfS own5 (k:=0) (by omega);simp only[Nat.zero_mul,zsi] at s0 s1 fz0 fz1;obtain⟨W6,hW6⟩:∃W6,(W5.setCell ⟨gs,0,none⟩ (.int .i64 a)).setCell ⟨gs,1,none⟩ (.int .i64 e)=W6:=⟨_,rfl⟩;rw[hW6] at o2 q2;have tc6:zan (· = gs) W5 W6:=((zan.refl _ W5).grown q1 (fun k e=>.inl (Option.some.inj e).symm)).grown q2 (fun k e=>.inl (Option.some.inj e).symm);have hI5:=HI4.out.below hb5;have hfree:∀b,¬Ow4 gs b:=fun b ho=>by have:=(HI4.out.ow gs b ho).2;omega
     have hwc:=HI4.out.size;have hty5:∃cur,W5.heap[gs]?=some (.cells cur 50 (0,0)):=(zaR own5 (by simp[Value.ownBlock])).2;have hI6:=hI5.free tc6 (fun mg f e=>(tc6.same mg (zrc.1 e).1 (fun e2=>by
      have e2:mg=gs:=e2;obtain⟨cur,h5⟩:=hty5;rw[e2,h5] at e;exact absurd (zad e) (by decide))).trans e) (fun k e=>by have e:k=gs:=e;subst e;exact⟨by omega,hfree⟩)
     have own6:W6.ownsRow w0.heap.size 50 2 (.slice (some ⟨gs,0,none⟩) (G+1) (G+1)) (G+1) (pv (zbZ ((a:Int),(e:Int)) G)):=zdy o2 hwc;have HI6:=hidF hI6;have Hown6:=hidF own6;have hgs6:gs<W6.heap.size:=(zcP own6).2.2.1;have hs56:=tc6.size;have hs45:=hb5.size;have hG1:(G:Int)+1=((G+1:Nat):Int):=by omega
     obtain⟨m,Hm⟩:∃m,Hid (G+1=m):=⟨_,rfl⟩;have hm0:(0:Int)<(m:Int):=by have:=Hm.out;omega
     rw[Hm.out] at Hown6 ⊢;clear hno own5 o1 o2 q1 q2 tc6 hI5 hI6 own6 hty5 hy hpn hnl;obtain⟨gp,cp,hvP,-,-⟩:=Hcell.out W6 Ow4 HI6.out k hlt;have hx9:∀s:ExtU W6,s.W.cell? ⟨pl,2,none⟩=some (.slice (some ⟨gp,0,none⟩) bs.length cp)/\s.W.cell? ⟨gp,k,none⟩=some (.pointer (some ⟨opA ps k,0,none⟩)):=fun s=>by
      obtain⟨gp',cp',hv',k2,k3⟩:=Hcell.out s.W Ow4 (HI6.out.below s.h) k hlt;rw[hvP] at hv';injection hv' with e1 e2 e3
      injection e1 with e1
      injection e1 with e1
      subst e1;subst e3;exact⟨k2,k3⟩
     have x1:∀s:ExtU W6,s.W.cell? ⟨pl,2,none⟩=some (.slice (some ⟨gp,0,none⟩) bs.length cp):=fun s=>(hx9 s).1
     have x2:∀s:ExtU W6,s.W.cell? ⟨gp,k,none⟩=some (.pointer (some ⟨opA ps k,0,none⟩)):=fun s=>(hx9 s).2
     clear hx9 hvP;have hpk:opA ps k=opA ps k:=rfl
     go_upto_region 7 with fail
     clear hW6 s0 s1 fz0 fz1;have hmix:Tryz.prog.follows .mixedOrders=true:=by kernel_rfl
     refine zdE [0,1,3,4,5,6,7,8,9,10,11] [2,12] 12 (fun w'=>∃s:ExtU W6,w'=s.W) hmix ⟨⟨W6.drew,(Below.refl _ _).drew⟩,rfl⟩ (by kernel_rfl) ?_;intro os hos;simp only[zru,zrv,zrB,zrA] at hos;subst hos
     change wpQuiet _ _ _ _ [_,_,_,_,_,_,_,_,_,_,_] _
     repeat (go_big_quiet_step (fail))
     refine wpQuiet_nil ?_;rintro w' ⟨⟨Wb,hWb⟩,hw'⟩ r' hr';replace hw':w'=Wb:=hw';subst w';simp only[zru,zrv,zrB,zrA,Option.map_some] at hr';subst hr';clear x1 x2 hpk;refine zbE rfl (fun K5 hK5=>?_);refine zd6 45 #[.tmp 55,.tmp 56] #[9,26] (by rfl) #[.string t,.slice (some ⟨gs,0,none⟩) m m] (by simp[Act.eval]) (fun v w'=>∃bs bt bp,v=plFn bs bt bp/\Below Wb.heap.size Wb w'/\Wb.heap.size<=bs/\Wb.heap.size<=bt/\Wb.heap.size<=bp/\w'.heap[bs]?=some (.cells #[.slice (some ⟨gs,0,none⟩) m m] 26 (0,0))/\w'.heap[bt]?=some (.cells #[.string t] 9 (0,0))/\w'.heap[bp]?=some (.cells #[plFn bs bt bp] 92 (0,0))) (zjd _ _) ((znx t gs m m Wb).mono (by
      rintro e w1 ⟨bs1,bt1,bp1,rfl,h1⟩;exact⟨_,rfl,bs1,bt1,bp1,rfl,h1⟩)) ?_
     rintro v8 W8 ⟨b1,b2,b3,rfl,hb8,l1,l2,l3,z1,z2,z3⟩;have hW68:Below W6.heap.size W6 W8:=zaa hWb hWb.size hb8;refine hK5 _ _ (fun _=>⟨⟨W8,hW68⟩,rfl⟩) ?_;clear hK5 K5;have hs6b:=hWb.size;have hfr8:∀b',W6.heap.size<=b'->w0.heap.size<=b'/\∀q,¬Ow4 b' q:=fun b' hb'=>⟨by omega,fun q ho=>by have:=(HI6.out.ow b' q ho).2;omega⟩
     have hPl:PlW w0 pl Q b1 b2 b3 gs m m t Ow4 W8 (zbZ ((a:Int),(e:Int)) G):=⟨HI6.out.below hW68,z1,z2,z3,zab Hown6.out hW68,by rw[zdb];exact Hm.out,hfr8 b1 (by omega),hfr8 b2 (by omega),hfr8 b3 (by omega),⟨by omega,hfree⟩⟩;have hpc:=zo0 (lo:=wB.heap.size) ht (opQ ps k) W8 Ow4 _ (opA ps k) a e hPl (Hat.out k hlt) hlgk (fun l hl x hx=>by
      have:=Hgr.out k hlt l ((HE.out k hlt).pl _ _ _ _ hlgk hl) x hx;rw[Hm.out] at this;exact this)
     refine zbE rfl (fun K6 hK6=>?_);refine zoX (.tmp 57) #[.tmp 64,.tmp 65,.tmp 66] #[86,3,3] (by rfl) 68 #[.pointer (some ⟨b1,0,none⟩),.pointer (some ⟨b2,0,none⟩),.pointer (some ⟨b3,0,none⟩)] (by simp[Act.eval,Act.put];rfl) #[.pointer (some ⟨opA ps k,0,none⟩),.int .i64 a,.int .i64 e,.pointer (some ⟨b1,0,none⟩),.pointer (some ⟨b2,0,none⟩),.pointer (some ⟨b3,0,none⟩)] (by simp[Act.eval,Act.put]) (fun v w'=>PlP w0 pl Q b1 b2 b3 gs m m t Ow4 W8 (zbZ ((a:Int),(e:Int)) G) (opQ ps k) a e (.returned v) w') (zlj _ _) (hpc.mono (by
      rintro e w1 ⟨Ow9,l,rfl,h1⟩;exact⟨_,rfl,Ow9,l,rfl,h1⟩)) ?_
     rintro v9 W9 ⟨Ow9,l,hv9,hl9,hP9,-⟩;injection hv9 with hv9
     subst hv9;refine hK6 _ _ (fun h=>by simp at h) ?_;clear hK6 K6;have HF:Hid (∃r v,CapQ G bs t a e cl r/\Ending.returned (.slice (some ⟨gs,0,none⟩) m m)=.returned v/\W9.ownsRow w.heap.size 50 2 v r.length (pv r)/\Below w.heap.size w W9):=by
      refine⟨upG (zbZ ((a:Int),(e:Int)) G) l,_,.inr ⟨k,hlt,HNo.out,hbel,l,(HE.out k hlt).pl _ _ _ _ hlgk hl9,rfl⟩,rfl,?_,(Hbel.out W9 Ow9 hP9.inv).1⟩;rw[zcy,zdb,Hm.out];exact zdy hP9.row (by have:=(Hbel.out w0 _ HIw.out).1.size;exact this)
     clear hpc hPl hl9 hP9 HI6 Hown6;show zfj _ .normal _ _;rw[za5];go_wp2;go_ret;exact HF.out
  ·obtain rfl:k=bs.length:=by omega
   have hd:decide ((bs.length:Int)<(bs.length:Int))=false:=by simp
   have HF:Hid (∃r v,CapQ G bs t a e cl r/\Ending.returned (.slice (some ⟨wr.heap.size,0,none⟩) 0 0)=.returned v/\(wr.alloc (.cells #[] 50)).ownsRow w.heap.size 50 2 v r.length (pv r)/\Below w.heap.size w (wr.alloc (.cells #[] 50))):=⟨[],_,.inl ⟨HNo.out,rfl⟩,rfl,zbD wr _ 2 w.heap.size wr.heap.size hbr.size rfl,hbr.alloc hbr.size _⟩;clear HI HNo;go_wp2;go_ret;exact HF.out
end Go.Proofs.YthdljcdbfmhleaaGreatDoor
