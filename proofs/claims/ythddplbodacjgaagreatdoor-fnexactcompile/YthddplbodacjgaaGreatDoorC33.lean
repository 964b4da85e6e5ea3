import Derived.Test.YthddplbodacjgaaGreatDoorC32
import Derived.Deep.RegionHeld3
namespace Go.Proofs.YthddplbodacjgaaGreatDoor
set_option maxHeartbeats 4000000
set_option maxRecDepth 100000
open Go.RowKit
section
variable {w:World}{B n:Nat}{v:Value}{xs:List Value}
attribute [local go_sem ↓] Go.wp_at_zero Go.wp_at_succ
theorem zhd{e:TypeId}(h:w.ownsRow B e 1 v n xs):∃a c,v=.slice a n c:=by
 rcases h.2 with ⟨rfl,rfl⟩|⟨g,cap,_,rfl,_⟩
 ·exact⟨none,0,rfl⟩
 ·exact⟨_,_,rfl⟩
theorem zgj{k:Nat}{e:TypeId}(h:w.ownsRow B e 1 v n xs)(hk:v.ownBlock=some k):B<=k/\∃cur,w.heap[k]?=some (.cells cur e (0,0)):=by
 rcases h.2 with ⟨rfl,_⟩|⟨g,cap,cur,rfl,hg,hh,_⟩
 ·simp[Value.ownBlock] at hk
 ·simp[Value.ownBlock] at hk;subst hk;exact⟨hg,cur,hh⟩
theorem Tryz.infoPtrMarks:(Tryz.prog.info? 163).map (fun i=>(i.zero,i.size,i.bytes))=some (some (.pointer none),1,8):=by kernel_rfl
theorem Tryz.infoPosSet:(Tryz.prog.info? 105).map (fun i=>(i.zero,i.size,i.bytes))=some (some (.slice none 0 0),1,24):=by kernel_rfl
def appP(ats:Array TypeId)(ty:TypeId)(args:Array Value):Sem Value:=Builtin.append_ ats ty args
theorem zpE{P:Program}{ops:Array Oper}{o:Oper}{a:Act}{K:Act->World->Prop}{Q:Exit->Act->World->Prop}{E:Prop}(hgd:o.guard=none)(s x:Operand)(t:TypeId)(hop:o.op=Op.call {callee:=Callee.builtin Builtin.append,args:=#[s,x],argTypes:=#[t,t]})(u y:Value)(hu:a.eval s=u)(hy:a.eval x=y)(v:Value)(w':World)
  (hrun:(appP #[t,t] o.type #[u,y]).run P w=.ok v w') (hK:K (a.put o.dst v) w'):if Region.wanted o (yielded ops a.tmps)=true then Oper.wp P o a w K Q else E:=by
 have hw:Region.wanted o (yielded ops a.tmps)=true:=by simp[Region.wanted,hgd]
 rw[zuV hw];unfold appP at hrun;unfold Oper.wp;simp[execOp,hop,resolve,invoke,builtin,hu,hy,hrun,Result.andThen];exact hK
theorem zok(xs:Array Value)(w:World):(callFunc 50 xs).run Tryz.prog w=.ok (.enter 50 xs) w:=by kernel_rfl
theorem znH{e:TypeId}(h:w.ownsRow B e 1 v (n+1) xs):∃g c,v=.slice (some ⟨g,0,none⟩) (n+1) c:=by
 rcases h.2 with ⟨_,h0⟩|⟨g,cap,_,rfl,_⟩
 ·omega
 ·exact⟨_,_,rfl⟩
theorem zmJ(B n nw bt gn:Nat)(fv r:Value)(fr:Nat->Nat)(w7:World)(hfo:w7.ownsRow B 105 1 fv n (slcL fr nw n))(hbx:w7.heap[bt]?=some (.cells #[.int .i64 nw,r,fv] 159 (0,0)))(hB:B<=w7.heap.size)(hn:n<=64000):
  ∃g8 cap8 w8,(appP #[119,119] 119 #[fv,.slice (some ⟨w7.heap.size,0,none⟩) 1 1]).run Tryz.prog (w7.alloc (.cells #[.slice (some ⟨gn,0,none⟩) nw nw] 105))=.ok (.slice (some ⟨g8,0,none⟩) (n+1) cap8) w8/\w8.ownsRow B 105 1 (.slice (some ⟨g8,0,none⟩) (n+1) cap8) (n+1) (slcL fr nw n++[.slice (some ⟨gn,0,none⟩) nw nw])/\
   w7.grownBy w8 fv.ownBlock/\w8.heap[bt]?=some (.cells #[.int .i64 nw,r,fv] 159 (0,0)):=by
 obtain⟨i1,hj,hy0,hy1,hy2⟩:=info_parts Tryz.infoPosSet;obtain⟨v',w8,hap,hown,hgr,-⟩:=run_append_own (P:=Tryz.prog) (w7.alloc (.cells #[.slice (some ⟨gn,0,none⟩) nw nw] 105)) B 119 119 105 i1 _ 1 24 Tryz.underlying119 hj hy0 hy1 hy2 rfl (by decide) fv n (slcL fr nw n) (hfo.alloc _) ⟨w7.heap.size,0,none⟩ 1 1 [.slice (some ⟨gn,0,none⟩) nw nw] rfl (fun j u hj=>by
   match j,hj with
   |0,hj=>simp at hj;subst hj;simp[Addr.add]) (by intro u hu;simp at hu;subst hu;rfl) (by unfold maxLen;omega) (by omega) (by simp;omega)
 obtain⟨g8,cap8,rfl⟩:=znH hown;have hgr':w7.grownBy w8 fv.ownBlock:=⟨hgr.os,hgr.tape,hgr.output,zuA (by simp) hgr.size,fun k hk hne=>by rw[hgr.block k (by simp;omega) hne,Below.heap_alloc _ _ _ hk]⟩;refine⟨g8,cap8,w8,hap,hown,hgr',(hgr'.block bt (ztp.1 hbx).1 (fun e=>?_)).trans hbx⟩;obtain⟨-,cur,e3⟩:=zgj hfo e.symm;rw[hbx] at e3;exact absurd (zak e3) (by decide)
theorem zaM.drew{S:Nat->Prop}{W:World}(h:zaM S w W):zaM S w W.drew:=⟨h.os,h.tape,h.output,h.size,h.same⟩
theorem zq9{nw bt mg ga gl g5 cap5 g8 cap8:Nat}{sv fv:Value}{mk:Nat->Nat}{f:Nat->Nat->Bool}{fr:Nat->Nat}{F:Nat->Nat->Nat}{g:Nat->Bool}{w4 w5 W6 w7 w8:World}(h:Trk B w n nw bt sv fv mk f fr F)(hn:n<64*nw)(na:w.heap.size<=ga)(nl:w.heap.size<=gl)
  (H1:Trk B w4 n nw bt sv fv mk f fr F/\(∀(k:Nat) (cs:Array Value) (t:TypeId),w4.heap[k]?=some (.cells cs t (0,0))->t≠163->t≠159->W6.heap[k]?=some (.cells cs t (0,0)))/\W6.ownsRow B 163 1 (.slice (some ⟨g5,0,none⟩) (n+1) cap5) (n+1) (ptrL mk n++[.pointer (some ⟨mg,0,none⟩)])/\Below w.heap.size w w4/\w4.grownBy w5 sv.ownBlock/\w5.grownBy W6 (some bt))
  (H2:W6.heap[bt]?=some (.cells #[.int .i64 nw,.slice (some ⟨g5,0,none⟩) (n+1) cap5,fv] 159 (0,0))/\w4.heap[mg]?=some (.cells (zaz g) 213 (0,0))/\FrAt w4 nw ga gl (addT zbm n) (addT zbm n)/\(∀k,sv.ownBlock=some k->B<=k/\∃cur,w4.heap[k]?=some (.cells cur 163 (0,0))))
  (H8:w8.ownsRow B 105 1 (.slice (some ⟨g8,0,none⟩) (n+1) cap8) (n+1) (slcL fr nw n++[.slice (some ⟨W6.heap.size,0,none⟩) nw nw])/\w7.grownBy w8 fv.ownBlock/\W6.drew.grownBy w7 none/\zaB w7 nw W6.heap.size zbm/\w8.heap[bt]?=some (.cells #[.int .i64 nw,.slice (some ⟨g5,0,none⟩) (n+1) cap5,fv] 159 (0,0))/\w7.ownsRow B 105 1 fv n (slcL fr nw n)):
  WrD B w n nw bt mk f fr F (w8.setCell ⟨bt,2,none⟩ (.slice (some ⟨g8,0,none⟩) (n+1) cap8)) (n+1) ga gl false (unf (.set g)) (.slice (some ⟨g5,0,none⟩) (n+1) cap5) (.slice (some ⟨g8,0,none⟩) (n+1) cap8) (fun p=>if p=n then mg else mk p) (fun p=>if p=n then g else f p) (fun p=>if p=n then W6.heap.size else fr p) (fun p=>if p=n then zbm else F p) (addT zbm n) (addT zbm n)/\Kp B w4 (w8.setCell ⟨bt,2,none⟩ (.slice (some ⟨g8,0,none⟩) (n+1) cap8)):=by
 obtain⟨h4,hk6,so6,hB4,hgr5,hg6⟩:=H1;obtain⟨b6,m4,hF4,hown0⟩:=H2;obtain⟨hown8,hgr8,hg7,hp7,b8,fo7⟩:=H8;have hbt:bt<w.heap.size:=(ztp.1 h.box).1;have hbb:=h.bb;have hs4:=hB4.size;have s46:w4.heap.size<=W6.heap.size:=zuA hgr5.size hg6.size;have hg9:=zaN w8 bt 2 (.slice (some ⟨g8,0,none⟩) (n+1) cap8);have b9:=zuT w8 bt 2 _ _ (.slice (some ⟨g8,0,none⟩) (n+1) cap8) b8;generalize w8.setCell ⟨bt,2,none⟩ (.slice (some ⟨g8,0,none⟩) (n+1) cap8)=W9 at *;have ht:zaM (fun k=>k=bt\/sv.ownBlock=some k\/fv.ownBlock=some k) w4 W9:=
  ((((((zaM.refl _ w4).grown hgr5 (fun k e=>.inl (.inr (.inl e)))).grown hg6 (fun k e=>.inl (.inl (by cases e;rfl)))).drew).grown hg7 (fun k e=>by cases e)).grown hgr8 (fun k e=>.inl (.inr (.inr e)))).grown hg9 (fun k e=>.inl (.inl (by cases e;rfl)))
 have hkp:Kp B w4 W9:=Kp.of_touch ht (by omega) (fun k hk e=>by
  rcases e with e|e|e
  ·subst e;exact⟨hbb,_,_,h4.box,.inl rfl⟩
  ·obtain⟨q1,cur,q2⟩:=hown0 k e;exact⟨q1,_,_,q2,.inr (.inl rfl)⟩
  ·obtain⟨q1,cur,q2⟩:=zgj h4.fo e;exact⟨q1,_,_,q2,.inr (.inr rfl)⟩)
 have k79:∀(k:Nat) (cs:Array Value) (t:TypeId),w7.heap[k]?=some (.cells cs t (0,0))->t≠105->t≠159->W9.heap[k]?=some (.cells cs t (0,0)):=fun k cs t e h1 h2=>by
  have e8:=(hgr8.block k (ztp.1 e).1 (fun e2=>by obtain⟨-,cur,e3⟩:=zgj fo7 e2.symm;rw[e] at e3;exact h1 (zak e3))).trans e;exact(hg9.block k (ztp.1 e8).1 (fun e2=>by cases e2;rw[b8] at e8;exact h2 (zak e8).symm)).trans e8
 have hfl:∀p,p<n->fr p<w.heap.size:=fun p hp=>(h.fol.rows p hp).glt
 have lga:=hF4.fi.glt;have lgl:=hF4.la.glt;have hif:∀{α:Type} (x:α) (y:Nat->α) (p:Nat),p<n->(if p=n then x else y p)=y p:=fun x y p hp=>zuU (by omega)
 refine⟨⟨⟨b9,?_,?_,⟨fun p hp=>?_,fun p q hp hq e=>?_⟩,fun p hp=>?_,by omega,h.nwl,h4.bru.keep (hkp.low 0 h.b0),h.bb,h.b0⟩,hkp.frag hF4,by omega,na,nl,fun p hp=>?_,fun p hp=>?_,fun p hp=>⟨zuU (by omega),zuU (by omega),zuU (by omega),zuU (by omega)⟩,fun p h1 h2=>?_,?_,(Kp.of_below (by omega) hB4).trans hkp,by omega⟩,hkp⟩
 ·rw[zo9,zuV rfl,znx (mk':=mk) (fun p hp=>zuU (by omega))];exact zas so6 (fun k cs e=>k79 k cs _ ((hg7.block k (ztp.1 e).1 (by simp)).trans e) (by decide) (by decide))
 ·rw[zhc,zuV rfl,zfG (fr':=fr) (fun p hp=>zuU (by omega))];exact zas hown8 (fun k cs e=>(hg9.block k (ztp.1 e).1 (fun e2=>by cases e2;rw[b8] at e;exact absurd (zak e) (by decide))).trans e)
 ·by_cases e:p=n
  ·rw[zuV e,zuV e];exact⟨k79 _ _ _ hp7.row (by decide) (by decide),hp7.lt⟩
  ·rw[zuU e,zuU e];exact hkp.pos (h4.fol.rows p (by omega))
 ·by_cases e1:p=n<;>by_cases e2:q=n
  ·omega
  ·rw[zuV e1,zuU e2] at e;have:=hfl q (by omega);omega
  ·rw[zuU e1,zuV e2] at e;have:=hfl p (by omega);omega
  ·rw[zuU e1,zuU e2] at e;exact h.fol.inj p q (by omega) (by omega) e
 ·by_cases e:p=n
  ·rw[zuV e,zuV e];exact hkp.typ _ _ _ m4 (by decide) (by decide) (by decide)
  ·rw[zuU e,zuU e];exact hkp.typ _ _ _ (h4.mks p (by omega)) (by decide) (by decide) (by decide)
 ·by_cases e:p=n
  ·rw[zuV e];omega
  ·rw[zuU e];have:=hfl p (by omega);omega
 ·by_cases e:p=n
  ·rw[zuV e];omega
  ·rw[zuU e];have:=hfl p (by omega);omega
 ·rw[zuV (by omega)];omega
 ·have hin:∀p,(p=n)↔inT (addT zbm n) p:=fun p=>by unfold inT;rw[zik,zcT];simp
  refine(zox (tk:=tkOf (fun p=>if p=n then g else f p)) (fol:=zgz (fun p=>if p=n then zbm else F p)) (f:=g) (n:=n) (fun c=>?_) (fun q=>?_)).dom (fun p=>by omega) (by simp) hin hin
  ·show (if n=n then g else f n) c.toNat=true↔_;rw[zuV rfl]
  ·show ¬zaA (if n=n then zbm else F n) q=true;rw[zuV rfl,zcT];simp
theorem zlq(B n nw bt mg:Nat)(sv fv:Value)(mk:Nat->Nat)(f:Nat->Nat->Bool)(fr:Nat->Nat)(F:Nat->Nat->Nat)(g:Nat->Bool)(w:World)(h:Trk B w n nw bt sv fv mk f fr F)(hm:w.heap[mg]?=some (.cells (zaz g) 213 (0,0)))(hn:n<64*nw):
  Calls Tryz.prog 82 #[.pointer (some ⟨bt,0,none⟩),.pointer (some ⟨mg,0,none⟩)] w fun e W=>WrR B w n nw bt mk f fr F 1 (unf (.set g)) e W:=by
 obtain⟨i0,hi,hz0,hz1,hz2⟩:=info_parts Tryz.infoPtrMarks;obtain⟨i1,hj,hy0,hy1,hy2⟩:=info_parts Tryz.infoPosSet;have hnw:=h.nwl;have hbt:bt<w.heap.size:=(ztp.1 h.box).1;obtain⟨ao,ca,rfl⟩:=zhd h.so;have hb0:Below w.heap.size w (w.alloc (.cells #[.bool false,.slice none 0 0,.slice none 0 0] 115)):=(Below.refl _ _).alloc (zuz _) _;have x0:(w.alloc (.cells #[.bool false,.slice none 0 0,.slice none 0 0] 115)).heap[w.heap.size]?=some (.cells #[.bool false,.slice none 0 0,.slice none 0 0] 115 (0,0)):=zuR _ _;have hba:=zkE nw bt false (.slice ao n ca) fv _ ((hb0.block bt hbt).trans h.box) hnw
 go_enter Tryz.func82,Tryz.ntmps82
 go_wp2_with fail
 refine hba.mono ?_;rintro e w1 ⟨ga,gl,rfl,na,nl,hfr,hb1⟩;rw[World.size_alloc] at na nl;have x1:=(hb1.block _ (by simp)).trans x0;have hB1:Below w.heap.size w w1:=hb0.trans (hb1.mono (by simp));obtain⟨W2,hW2⟩:∃W2,W2=(w1.alloc (.cells #[.bool false,.slice (some ⟨ga,0,none⟩) nw nw,.slice (some ⟨gl,0,none⟩) nw nw] 115)):=⟨_,rfl⟩;have x5:W2.heap[w1.heap.size]?=some (.cells #[.bool false,.slice (some ⟨ga,0,none⟩) nw nw,.slice (some ⟨gl,0,none⟩) nw nw] 115 (0,0)):=by rw[hW2];exact zuR _ _
 have hb2:Below w1.heap.size w1 W2:=by rw[hW2];exact(Below.refl _ _).alloc (zuz _) _
 have y2:=hfr.below hb2;have x4:W2.heap[w.heap.size]?=_:=(hb2.block _ (ztp.1 x1).1).trans x1;have lga:=hfr.fi.glt;have lgl:=hfr.la.glt;have hne:=hfr.ne;have hbx:W2.heap[bt]?=_:=(hb2.block bt (zuB hbt hB1.size)).trans ((hB1.block bt hbt).trans h.box);have hadd:=zij nw ga nw zbm n W2.drew y2.fi.row hn hnw (fun _=>by simp[zbm]);have c1:W2.cell? ⟨w1.heap.size,1,none⟩=some (.slice (some ⟨ga,0,none⟩) nw nw):=(zac x5).2.1;have c2:W2.cell? ⟨bt,1,none⟩=some (.slice ao n ca):=(zac hbx).2.1;have hs12:w1.heap.size<W2.heap.size:=(ztp.1 x5).1;have hs01:=hB1.size;go_wp2;rw[<-hW2];clear hW2
 go_region_held3 (fun w'=>w'.cell? ⟨w1.heap.size,1,none⟩=some (.slice (some ⟨ga,0,none⟩) nw nw)/\w'.cell? ⟨bt,1,none⟩=some (.slice ao n ca)) ((first|exact⟨c1,c2⟩|exact⟨(zac z5).2.1,(zac zb).2.1⟩|go_keep)) ((go_at_call 87;refine hadd.mono ?_;rintro e w3 ⟨rfl,hr3,hg3⟩;have z5:=(hg3.block (w1.heap.size) (by show _<W2.heap.size;omega) (by simp;omega)).trans x5;have zb:=(hg3.block bt (by show _<W2.heap.size;omega) (by simp;omega)).trans hbx))
 have z4:w3.heap[w.heap.size]?=_:=(hg3.block (w.heap.size) (by show _<W2.heap.size;omega) (by simp;omega)).trans x4;have zl:zaB w3 nw gl zbm:=⟨(hg3.block gl (by show _<W2.heap.size;omega) (by simp;omega)).trans y2.la.row,y2.la.lt⟩;have hs23:W2.heap.size<=w3.heap.size:=hg3.size;have hadd2:=zij nw gl nw zbm n w3.drew zl.row hn hnw (fun _=>by simp[zbm]);have d1:w3.cell? ⟨w1.heap.size,2,none⟩=some (.slice (some ⟨gl,0,none⟩) nw nw):=(zac z5).2.2.1;have d2:w3.cell? ⟨bt,1,none⟩=some (.slice ao n ca):=(zac zb).2.1;clear c1 c2 hadd hba x0;go_wp2
 go_region_held3 (fun w'=>w'.cell? ⟨w1.heap.size,2,none⟩=some (.slice (some ⟨gl,0,none⟩) nw nw)/\w'.cell? ⟨bt,1,none⟩=some (.slice ao n ca)) ((first|exact⟨d1,d2⟩|exact⟨(zac y5).2.2.1,(zac yb).2.1⟩|go_keep)) ((go_at_call 87;refine hadd2.mono ?_;rintro e w4 ⟨rfl,hr4,hg4⟩;have y5:=(hg4.block (w1.heap.size) (by show _<w3.heap.size;omega) (by simp;omega)).trans z5;have yb:=(hg4.block bt (by show _<w3.heap.size;omega) (by simp;omega)).trans zb))
 have y4:w4.heap[w.heap.size]?=_:=(hg4.block (w.heap.size) (by show _<w3.heap.size;omega) (by simp;omega)).trans z4;have hs34:w3.heap.size<=w4.heap.size:=hg4.size;have hra:w4.heap[ga]?=_:=(hg4.block ga (by show _<w3.heap.size;omega) (by simp;omega)).trans hr3;have hT0:∀i,addT zbm n i<18446744073709551616:=zkv zbm (fun _=>by simp[zbm]) n;have hF4:FrAt w4 nw ga gl (addT zbm n) (addT zbm n):=⟨⟨hra,hT0⟩,⟨hr4,hT0⟩,hne⟩;have hB4:Below w.heap.size w w4:=((hB1.trans (hb2.mono hs01)).drew.grown hg3 (by show _<=W2.heap.size;omega) (fun k e=>by cases e;omega)).drew.grown hg4 (by show _<=w3.heap.size;omega) (fun k e=>by cases e;omega);have h4:=h.below hB4;have m4:=(hB4.block mg (ztp.1 hm).1).trans hm;clear d1 d2 hadd2 hg3 hg4 z4 zl z5 zb x4 x5 x1 hbx hr3 hr4 hra y2 hb1 hb2 hB1 hb0 hfr;have k1:=(zac yb).2.1;have hown0:∀k,(Value.slice ao n ca).ownBlock=some k->B<=k/\∃cur,w4.heap[k]?=some (.cells cur 163 (0,0)):=fun k hk=>zgj h4.so hk
 have hkeep4:∀(w5:World),w4.grownBy w5 (Value.slice ao n ca).ownBlock->∀(k:Nat) (cs:Array Value) (t:TypeId),w4.heap[k]?=some (.cells cs t (0,0))->t≠163->w5.heap[k]?=some (.cells cs t (0,0)):=fun w5 hg k cs t e hne=>(hg.block k (ztp.1 e).1 (fun e2=>by
  obtain⟨-,cur,e3⟩:=hown0 k e2.symm;rw[e] at e3;exact hne (zak e3))).trans e
 go_wp2_with (refine zfK w4 _ rfl rfl (.tmp 28) (.tmp 30) 157 rfl B 163 i0 (.pointer none) 8 Tryz.underlying157 hi hz0 hz1 hz2 rfl (.slice ao n ca) n (ptrL mk n) (.pointer (some ⟨mg,0,none⟩)) rfl h4.so rfl rfl (by omega) (by omega) (by have:=h.bb;omega) ?_;intro g5 cap5 w5 hown5 hgr5 hat5;have v5:=hkeep4 w5 hgr5 _ _ _ yb (by decide);obtain⟨-,q1,-,-,fq1,-⟩:=zac v5)
 clear q1 fq1 k1;have v6:=zuT w5 bt 1 _ _ (.slice (some ⟨g5,0,none⟩) (n+1) cap5) v5;have hg6:=zaN w5 bt 1 (.slice (some ⟨g5,0,none⟩) (n+1) cap5);generalize hW6:w5.setCell ⟨bt,1,none⟩ (.slice (some ⟨g5,0,none⟩) (n+1) cap5)=W6 at *;clear hW6;have b6:W6.heap[bt]?=some (.cells #[.int .i64 nw,.slice (some ⟨g5,0,none⟩) (n+1) cap5,fv] 159 (0,0)):=v6;have hkeep6:∀(k:Nat) (cs:Array Value) (t:TypeId),w4.heap[k]?=some (.cells cs t (0,0))->t≠163->t≠159->W6.heap[k]?=some (.cells cs t (0,0)):=fun k cs t e h1 h2=>by
  have e5:=hkeep4 w5 hgr5 k cs t e h1;exact(hg6.block k (ztp.1 e5).1 (fun e2=>by cases e2;rw[v5] at e5;exact h2 (zak e5).symm)).trans e5
 have so6:W6.ownsRow B 163 1 (.slice (some ⟨g5,0,none⟩) (n+1) cap5) (n+1) (ptrL mk n++[.pointer (some ⟨mg,0,none⟩)]):=zas hown5 (fun k cs e=>(hg6.block k (ztp.1 e).1 (fun e2=>by cases e2;rw[v5] at e;exact absurd (zak e) (by decide))).trans e);have fo6:W6.ownsRow B 105 1 fv n (slcL fr nw n):=zas h4.fo (fun k cs e=>hkeep6 k cs _ e (by decide) (by decide));obtain⟨fo,cf,rfl⟩:=zhd fo6;have s46:w4.heap.size<=W6.heap.size:=zuA hgr5.size hg6.size;have hno:=zeq nw bt (.slice (some ⟨g5,0,none⟩) (n+1) cap5) (.slice fo n cf) W6.drew b6 hnw;have bk6:=(zac b6).2.2.1;have hB0:=h.bb;have hB6:B<=W6.drew.heap.size:=by show B<=W6.heap.size;omega
 have hn6:n<=64000:=by omega
 have hrest:∀(w7:World),(zaB w7 nw W6.heap.size zbm/\W6.drew.grownBy w7 none)->∃g8 cap8 w8,w7.cell? ⟨bt,2,none⟩=some (.slice fo n cf)/\(w7.alloc (.cells #[.slice (some ⟨W6.heap.size,0,none⟩) nw nw] 105)).cell? ⟨bt,2,none⟩=some (.slice fo n cf)/\(appP #[119,119] 119 #[.slice fo n cf,.slice (some ⟨w7.heap.size,0,none⟩) 1 1]).run Tryz.prog (w7.alloc (.cells #[.slice (some ⟨W6.heap.size,0,none⟩) nw nw] 105))=.ok (.slice (some ⟨g8,0,none⟩) (n+1) cap8) w8/\w8.cell? ⟨bt,2,none⟩=some (.slice fo n cf)/\w8.frozen? ⟨bt,2,none⟩=false/\
   Hid (w8.ownsRow B 105 1 (.slice (some ⟨g8,0,none⟩) (n+1) cap8) (n+1) (slcL fr nw n++[.slice (some ⟨W6.heap.size,0,none⟩) nw nw])/\w7.grownBy w8 (Value.slice fo n cf).ownBlock/\W6.drew.grownBy w7 none/\zaB w7 nw W6.heap.size zbm/\w8.heap[bt]?=some (.cells #[.int .i64 nw,.slice (some ⟨g5,0,none⟩) (n+1) cap5,.slice fo n cf] 159 (0,0))/\w7.ownsRow B 105 1 (.slice fo n cf) n (slcL fr nw n)):=fun w7 ⟨hp7,hg7⟩=>by
  have b7:=(hg7.block bt (ztp.1 b6).1 (by simp)).trans b6;have fo7:=zas fo6 (fun k cs e=>(hg7.block k (ztp.1 e).1 (by simp)).trans e);obtain⟨g8,cap8,w8,hap,hown8,hgr8,b8⟩:=zmJ B n nw bt W6.heap.size (.slice fo n cf) _ fr w7 fo7 b7 (zuA hB6 hg7.size) hn6;exact⟨g8,cap8,w8,(zac b7).2.2.1,(zac (zao b7)).2.2.1,hap,(zac b8).2.2.1,(zac b8).2.2.2.2.2,hown8,hgr8,hg7,hp7,b8,fo7⟩
 have hall:Hid (Trk B w4 n nw bt (.slice ao n ca) (.slice fo n cf) mk f fr F/\(∀(k:Nat) (cs:Array Value) (t:TypeId),w4.heap[k]?=some (.cells cs t (0,0))->t≠163->t≠159->W6.heap[k]?=some (.cells cs t (0,0)))/\W6.ownsRow B 163 1 (.slice (some ⟨g5,0,none⟩) (n+1) cap5) (n+1) (ptrL mk n++[.pointer (some ⟨mg,0,none⟩)])/\Below w.heap.size w w4/\w4.grownBy w5 (Value.slice ao n ca).ownBlock/\w5.grownBy W6 (some bt)):=⟨h4,hkeep6,so6,hB4,hgr5,hg6⟩;have hmore:Hid (W6.heap[bt]?=some (.cells #[.int .i64 nw,.slice (some ⟨g5,0,none⟩) (n+1) cap5,.slice fo n cf] 159 (0,0))/\w4.heap[mg]?=some (.cells (zaz g) 213 (0,0))/\FrAt w4 nw ga gl (addT zbm n) (addT zbm n)/\(∀k,(Value.slice ao n ca).ownBlock=some k->B<=k/\∃cur,w4.heap[k]?=some (.cells cur 163 (0,0)))):=⟨b6,m4,hF4,hown0⟩;have hfrag:Hid (w4.heap[w.heap.size]?=some (.cells #[.bool false,.slice none 0 0,.slice none 0 0] 115 (0,0))/\w4.heap[w1.heap.size]?=some (.cells #[.bool false,.slice (some ⟨ga,0,none⟩) nw nw,.slice (some ⟨gl,0,none⟩) nw nw] 115 (0,0))):=⟨y4,y5⟩;clear h4 hkeep6 so6 hB4 hgr5 hg6 b6 m4 hF4 hown0 y4 y5 hkeep4 v6 v5 yb fo6 hown5 hat5 hi hz0 hz1 hz2 hj hy0 hy1 hy2 hT0
 go_region_law ((first|(refine zfI (by rfl) 50 #[.tmp 39] #[100] (by rfl) #[.pointer (some ⟨bt,0,none⟩)] (by simp[Act.eval,Act.put]) (.slice (some ⟨W6.heap.size,0,none⟩) nw nw) (fun w'=>zaB w' nw W6.heap.size zbm/\W6.drew.grownBy w' none) (zok _ _) hno ?_;intro w7 hp7;obtain⟨g8,cap8,w8,bk7,bk7',hap,bk8,fk8,H8⟩:=hrest w7 hp7;clear hp7)|(refine zpE (by rfl) (.tmp 38) (.tmp 41) 119 (by rfl) _ _ (by rfl) (by rfl) _ _ hap ?_)))
 all_goals
  obtain⟨D9,K9⟩:=zq9 h hn (by omega) (by omega) hall.out hmore.out H8.out;have u4:=K9.typ _ _ _ hfrag.out.1 (by decide) (by decide) (by decide);have u5:=K9.typ _ _ _ hfrag.out.2 (by decide) (by decide) (by decide);generalize w8.setCell ⟨bt,2,none⟩ (.slice (some ⟨g8,0,none⟩) (n+1) cap8)=W9 at *;obtain⟨a0,a1,a2,-,-,-⟩:=zac u5;obtain⟨k0,k1,k2,f0,f1,f2⟩:=zac u4;have hpos:=zbz h.bru;clear hall hmore hfrag H8 K9 h hm hap bk7 bk7' bk8 fk8 hrest hno bk6;go_wp2;refine zuN (v:=.agg #[.bool false,.slice (some ⟨ga,0,none⟩) nw nw,.slice (some ⟨gl,0,none⟩) nw nw]) (by simp[results,Tryz.results82,go_sem,k0,k1,k2]) rfl (D9.ret u4 (zuz _) hpos (zuz _))
end
section
variable {w wr w5:World}{v l r:Value}{p t1 t2:Pt}{a b:Int}{g n cap B:Nat}{xs:List Value}
attribute [local go_sem ↓] Go.wp_at_zero Go.wp_at_succ
theorem zck(h:zaT w v p):∃t x,v=.iface t x:=by
 cases p with
 |set f=>obtain⟨_,rfl,_⟩:=h;exact⟨_,_,rfl⟩
 |seq l r=>obtain⟨_,_,rfl,_⟩:=h;exact⟨_,_,rfl⟩
 |alt l r=>obtain⟨_,_,rfl,_⟩:=h;exact⟨_,_,rfl⟩
 |rep b m n=>obtain⟨_,rfl,_⟩:=h;exact⟨_,_,rfl⟩
 |grp b g=>obtain⟨_,rfl,_⟩:=h;exact⟨_,_,rfl⟩
theorem zdP:∀(p:Pt) (v:Value),zaT w v p->1<=wPt p/\wPt p<=2001
 |.set _,_,_=>by simp[wPt]
 |.seq l r,_,⟨_,_,_,h1,h2⟩=>zdV (by have:=zdP l _ h1;have:=zdP r _ h2;omega)
 |.alt l r,_,⟨_,_,_,h1,h2⟩=>zdV (by have:=zdP l _ h1;have:=zdP r _ h2;omega)
 |.rep b mn mx,_,⟨_,_,h1,h2⟩=>by
  have h3:=zdP b _ h1;have hc:=zdC h2;exact zdV (ztA h3.1 hc.1 (by omega) (by omega) |> fun h=>by simpa using h)
 |.grp b _,_,⟨_,_,h1⟩=>zdP b _ h1
def RepT(w:World)(p:Pt)(mn mx:Int)(e:Ending)(w':World):Prop:=
 ∃t x p',e=.returned (.iface t x)/\zaT w' (.iface t x) p'/\wPt p'=capW (wPt p*za2 mn mx)/\unf p'=unf (.rep p mn mx)/\Below w.heap.size w w'
theorem ziQ(v:Value)(p:Pt)(mn mx:Int)(w:World)(hT:zaT w v p)(hbd:zaY mn mx=true):
  Calls Tryz.prog 119 #[v,.int .i64 mn,.int .i64 mx] w fun e w'=>RepT w p mn mx e w':=by
 have hwb:=zdP p v hT
 by_cases h1:mn=1/\mx=1
 ·obtain⟨rfl,rfl⟩:=h1;obtain⟨t,x,rfl⟩:=zck hT;exact(zj3 _ w t x rfl).mono fun e w' h=>⟨t,x,p,h.1,zaT.keep (.of h.2) p _ hT,by rw[show za2 1 1=1 from rfl,Int.mul_one,zeN hwb.2],(zsv (unf p)).symm,h.2⟩
 ·have hnew:∀t x,zde t x->v=.iface t x->Calls Tryz.prog 119 #[v,.int .i64 mn,.int .i64 mx] w fun e w'=>RepT w p mn mx e w':=by
   intro t x ho hv;subst hv;exact(zhC t x ho mn mx w h1).mono fun e w' h=>⟨_,_,.rep p mn mx,h.1,⟨_,rfl,zaT.keep (.of h.2) p _ hT,hbd⟩,rfl,rfl,h.2⟩
  cases p with
  |set f=>obtain⟨_,e,_⟩:=hT;exact hnew _ _ (zoZ _) e
  |seq l r=>obtain⟨_,_,e,_⟩:=hT;exact hnew _ _ (zoY _) e
  |alt l r=>obtain⟨_,_,e,_⟩:=hT;exact hnew _ _ (zoW _) e
  |grp b g=>obtain⟨_,e,_⟩:=hT;exact hnew _ _ (zoX _) e
  |rep b imn imx=>
   clear hnew;have hT0:=hT;obtain⟨l,rfl,hl,hb⟩:=hT;obtain⟨t,x,rfl⟩:=zck hl;have hb2:=(zdP b _ hl).2;refine(zj4 t x imn imx mn mx w h1).mono fun e w' h=>?_
   by_cases hc:zcU imn imx=true/\zcU mn mx=true
   ·rw[zuV hc] at h;refine⟨_,_,.rep b 0 (if imx<=mx then imx else mx),h.1,⟨_,rfl,zaT.keep (.of h.2) b _ hl,zjI (zjJ hc.1 hc.2)⟩,?_,znC hc.1 hc.2,h.2⟩;show capW (wPt b*za2 0 _)=capW (capW (wPt b*za2 imn imx)*za2 mn mx);rw[zem hc.1,zem hc.2,zem (zjJ hc.1 hc.2),Int.mul_one,Int.mul_one,zeN hb2,zeN hb2]
   ·rw[zuU hc] at h;exact⟨_,_,.rep (.rep b imn imx) mn mx,h.1,⟨_,rfl,zaT.keep (.of h.2) _ _ hT0,hbd⟩,rfl,rfl,h.2⟩
theorem zoF(sv l:Value)(p:Pt)(mn mx:Int)(g o c:Nat)(w:World)(c0:w.cell? ⟨g,o,none⟩=some l)(hp:zaT w l p)(hbd:zaY mn mx=true):
  Calls Tryz.prog 112 #[.agg #[.int .i64 4,sv,.int .i64 mn,.int .i64 mx,.int .i64 0],.slice (some ⟨g,o,none⟩) 1 c] w fun e w'=>RepT w p mn mx e w':=by
 have hg:g<w.heap.size:=block_lt_of_cell c0;have hR:=fun(W:World) (hb:Below w.heap.size w W)=>ziQ l p mn mx W (zaT.keep (.of hb) p l hp) hbd
 have hb0:Below w.heap.size w (w.alloc (.cells #[.int .i64 4,sv,.int .i64 mn,.int .i64 mx,.int .i64 0] 144)).drew:=((Below.refl _ _).alloc (zuz _) _).drew;clear hp hbd
 go_enter Tryz.func112,Tryz.ntmps112
 go_wp2
 go_region_held3 (fun w'=>w'.cell? ⟨g,o,none⟩=some l/\w'.cell? ⟨w.heap.size,2,none⟩=some (.int .i64 mn)/\w'.cell? ⟨w.heap.size,3,none⟩=some (.int .i64 mx)) ((first|go_keep|exact⟨(hb2.cell (by simp;omega)).trans ((World.cell?_of_block (Below.heap_alloc _ _ _ hg)).trans c0),(hb2.cell (by simp)).trans (by simp),(hb2.cell (by simp)).trans (by simp)⟩)) ((go_at_call 119;refine(hR _ hb0).mono ?_;rintro e w2 ⟨t,x,p2,rfl,hp2,hw2,hi2,hb2⟩))
 go_wp2;go_ret;exact⟨t,x,p2,rfl,hp2,hw2,hi2,zaa hb0 hb0.size hb2⟩
def IsTr(w:World)(v:Value)(t0:Pt)(wt:Int):Prop:=∃p,zaT w v p/\wPt p=wt/\unf p=unf t0
theorem IsTr.keep{w':World}{t0:Pt}{wt:Int}(h:IsTr w v t0 wt)(hk:zdv w w'):IsTr w' v t0 wt:=by
 obtain⟨p,h1,h2⟩:=h;exact⟨p,zaT.keep hk p v h1,h2⟩
theorem zqN(h1:IsTr w l t1 a)(h2:IsTr w r t2 b):IsTr w (.iface 168 (.agg #[l,r])) (.seq t1 t2) (capW (a+b)):=by
 obtain⟨p,hp,rfl,hi⟩:=h1;obtain⟨q,hq,rfl,hj⟩:=h2;exact⟨.seq p q,⟨l,r,rfl,hp,hq⟩,rfl,by show (unf p).seq (unf q)=(unf t1).seq (unf t2);rw[hi,hj]⟩
theorem zqK(h1:IsTr w l t1 a)(h2:IsTr w r t2 b):IsTr w (.iface 170 (.agg #[l,r])) (.alt t1 t2) (capW (a+b)):=by
 obtain⟨p,hp,rfl,hi⟩:=h1;obtain⟨q,hq,rfl,hj⟩:=h2;exact⟨.alt p q,⟨l,r,rfl,hp,hq⟩,rfl,by show (unf p).alt (unf q)=(unf t1).alt (unf t2);rw[hi,hj]⟩
theorem zqL{g:Int}(h1:IsTr w l t1 a):IsTr w (.iface 175 (.agg #[l,.int .i64 g])) (.grp t1 g) a:=by
 obtain⟨p,hp,rfl,hi⟩:=h1;exact⟨.grp p g,⟨l,rfl,hp⟩,rfl,hi⟩
theorem zqM{p':Pt}{mn mx:Int}(hw:wPt p=a)(hi:unf p=unf t1)(h:zaT w v p')(h2:wPt p'=capW (wPt p*za2 mn mx))(h3:unf p'=unf (.rep p mn mx)):IsTr w v (.rep t1 mn mx) (capW (a*za2 mn mx)):=
 ⟨p',h,by rw[h2,hw],h3.trans (by show repG (unf p) mn mx=repG (unf t1) mn mx;rw[hi])⟩
theorem zgT(c:Nat):∀(rs:List (Int×Int)) (f:Nat->Bool),(rs.foldl (fun f r=>zgS f r.1 r.2) f) c=(f c || hasF rs c)
 |[],f=>by simp[hasF]
 |r::rs,f=>by
  rw[List.foldl_cons,zgT c rs];simp[zgS,hasF,Bool.or_assoc]
theorem znd(rs:List (Int×Int))(c:Nat):zdJ rs c=hasF rs c:=by
 unfold zdJ;rw[zgT]
 rfl
theorem zl7{mg:Nat}{rs:List (Int×Int)}(h:w.heap[mg]?=some (.cells (zaz (zdJ rs)) 213 (0,0))):IsTr w (.iface 165 (.agg #[.pointer (some ⟨mg,0,none⟩)])) (.set (hasF rs)) 1:=
 ⟨.set (zdJ rs),⟨mg,rfl,h⟩,rfl,by show GA.one _=GA.one _;rw[show zdJ rs=hasF rs from funext fun c=>znd rs c]⟩
def zca(w:World)(xs:List Value)(st:List Int)(ts:List Pt):Prop:=xs.length=st.length/\(∀j,j<st.length->∃t x,xs[j]?=some (.iface t x)/\IsTr w (.iface t x) (ts.getD j zbP) (st.getD j 0))/\ts.length=st.length
theorem zdf{base:Nat}{e:TypeId}{sz:Nat}(h:w.ownsRow base e sz (.slice (some ⟨g,0,none⟩) n cap) n xs):∃cur,w.heap[g]?=some (.cells cur e (0,0)):=by
 rcases h.2 with ⟨h0,_⟩|⟨g',cap',cur,hv,_,hh,_⟩
 ·cases h0
 ·cases hv;exact⟨cur,hh⟩
theorem zbA{w4:World}(hw:Below wr.heap.size wr w4)(hown:w4.ownsRow B 118 1 (.slice (some ⟨g,0,none⟩) n cap) n xs)(hg:w4.grownBy w5 (some g)):zdv wr w5:=by
 obtain⟨cur,hr⟩:=zdf hown;exact(zdv.of hw).trans (zdv.grown hg hr (by decide))
theorem tn1(rs:List (Int×Int))(ops:List Pt):zbH ⟨1,rs,0,0,0⟩ ops=.set (hasF rs):=rfl
theorem tn2(ops:List Pt):zbH ⟨2,[],0,0,0⟩ ops=.seq (ops.getD 0 zbP) (ops.getD 1 zbP):=rfl
theorem tn3(ops:List Pt):zbH ⟨3,[],0,0,0⟩ ops=.alt (ops.getD 0 zbP) (ops.getD 1 zbP):=rfl
theorem tn4(mn mx:Int)(ops:List Pt):zbH ⟨4,[],mn,mx,0⟩ ops=.rep (ops.getD 0 zbP) mn mx:=rfl
theorem tn5(g:Int)(ops:List Pt):zbH ⟨5,[],0,0,g⟩ ops=.grp (ops.getD 0 zbP) g:=rfl
theorem wn1(rs:List (Int×Int))(ops:List Int):zcf ⟨1,rs,0,0,0⟩ ops=1:=rfl
theorem wn2(ops:List Int):zcf ⟨2,[],0,0,0⟩ ops=capW (ops.getD 0 0+ops.getD 1 0):=rfl
theorem wn3(ops:List Int):zcf ⟨3,[],0,0,0⟩ ops=capW (ops.getD 0 0+ops.getD 1 0):=rfl
theorem wn4(mn mx:Int)(ops:List Int):zcf ⟨4,[],mn,mx,0⟩ ops=capW (ops.getD 0 0*za2 mn mx):=rfl
theorem wn5(g:Int)(ops:List Int):zcf ⟨5,[],0,0,g⟩ ops=ops.getD 0 0:=rfl
theorem zdD(ts:List Pt)(m:Nat):(ts.drop m).getD 0 zbP=ts.getD m zbP/\(ts.drop m).getD 1 zbP=ts.getD (m+1) zbP:=by
 simp[List.getD_eq_getElem?_getD,List.getElem?_drop]
theorem zc6{ns:List zau}{k m ar:Nat}{st:List Int}{nd:zau}{t:TypeId}{x:Value}{g' cap':Nat}(hst:st.length=m+ar)(har:zaI nd.kind=ar)(ha:zcf nd (st.drop m)=a)
  (hparts:zca wr xs st (tstk ns k)) (hk:zdv wr w5) (hn:ns.getD k .zero=nd) (hp:IsTr w5 (.iface t x) (zbH nd ((tstk ns k).drop m)) a)
  (hdk:st.length<=k) (hown5:w5.ownsRow B 118 1 (.slice (some ⟨g',0,none⟩) (m+1) cap') (m+1) (xs.take m++[.iface t x])) (HS:zdy ns []=zdy (ns.drop k) st) (HD:zdy (ns.drop k) st=zdy (ns.drop (k+1)) (zgc st nd)):
  ∃(st':List Int) (xs':List Value),m+1=st'.length/\w5.ownsRow B 118 1 (.slice (some ⟨g',0,none⟩) st'.length cap') st'.length xs'/\zca w5 xs' st' (tstk ns (k+1))/\st'.length<=k+1/\Hid (zdy ns []=zdy (ns.drop (k+1)) st'):=by
 have hw:zgc st nd=st.take m++[a]:=by
  unfold zgc;rw[har,hst,zuw,ha]
 have hl:(st.take m++[a]).length=m+1:=by simp;omega
 have hts:tstk ns (k+1)=(tstk ns k).take m++[zbH nd ((tstk ns k).drop m)]:=by
  rw[tstk,hn,zlM,har,hparts.2.2,hst,zuw]
 have hlx:=hparts.1;have hlt:=hparts.2.2;refine⟨st.take m++[a],xs.take m++[.iface t x],hl.symm,by rw[hl];exact hown5,⟨by simp;omega,fun j hj=>?_,by rw[hts];simp;omega⟩,by omega,?_⟩
 ·rw[hl] at hj;rw[hts]
  by_cases e:j=m
  ·subst e;refine⟨t,x,?_,?_⟩
   ·rw[ztR (by simp;omega)];rw[zt8,zuE (by omega),Nat.sub_self];rfl
   ·have e1:(st.take j++[a]).getD j 0=a:=by
     rw[ztO,ztR (by simp;omega)];simp[Nat.min_eq_left (show j<=st.length by omega)]
    have e2:((tstk ns k).take j++[zbH nd ((tstk ns k).drop j)]).getD j zbP=zbH nd ((tstk ns k).drop j):=by
     rw[ztO,ztR (by simp;omega)];simp[Nat.min_eq_left (show j<=(tstk ns k).length by omega)]
    rw[e1,e2];exact hp
  ·obtain⟨t',x',h1,h2⟩:=hparts.2.1 j (by omega);refine⟨t',x',?_,?_⟩
   ·rw[ztQ (by simp;omega),ztY,zuV (by omega)];exact h1
   ·have e1:(st.take m++[a]).getD j 0=st.getD j 0:=by
     rw[ztO,ztQ (by simp;omega),ztY,zuV (by omega),ztO]
    have e2:((tstk ns k).take m++[zbH nd ((tstk ns k).drop m)]).getD j zbP=(tstk ns k).getD j zbP:=by
     rw[ztO,ztQ (by simp;omega),ztY,zuV (by omega),ztO]
    rw[e1,e2];exact h2.keep hk
 ·show _=_;rw[HS,HD,hw]
end
variable {w W:World}{B n nw bt n' ga gl ha hl:Nat}{mk fr mk' fr' A L A' L':Nat -> Nat}{f f':Nat -> Nat -> Bool}{F F':Nat -> Nat -> Nat}{b c:Bool}{D E:Nat -> Prop}{M N:GA}{sv fv:Value}
theorem zdE(xs:Array Value)(w:World):(callFunc 53 xs).run Tryz.prog w=.ok (.enter 53 xs) w:=by kernel_rfl
theorem zgg(xs:Array Value)(w:World):(callFunc 83 xs).run Tryz.prog w=.ok (.enter 83 xs) w:=by kernel_rfl
theorem zkQ(xs:Array Value)(w:World):(callFunc 84 xs).run Tryz.prog w=.ok (.enter 84 xs) w:=by kernel_rfl
def KU(w W:World):Prop:=∀(k:Nat) (cs:Array Value) (t:TypeId),w.heap[k]?=some (.cells cs t (0,0))->t≠180->W.heap[k]?=some (.cells cs t (0,0))
theorem KU.of{S:Nat->Prop}(t:zaM S w W)(hS:∀k,k<w.heap.size->S k->∃m T,zaB w m k T):KU w W:=fun k cs u hk hu=>by
 have hlt:=(ztp.1 hk).1;refine(t.same k hlt (fun hs=>?_)).trans hk;obtain⟨m,T,hp⟩:=hS k hlt hs;have:=hp.row;rw[hk] at this;exact hu (zak this)
def WrX(B:Nat)(w:World)(n nw bt:Nat)(mk:Nat->Nat)(f:Nat->Nat->Bool)(fr:Nat->Nat)(F:Nat->Nat->Nat)(W:World)(n' ga gl:Nat)(b:Bool)(M:GA):Prop:=
 ∃(sv fv:Value) (mk':Nat->Nat) (f':Nat->Nat->Bool) (fr':Nat->Nat) (F':Nat->Nat->Nat) (A L:Nat->Nat),WrD B w n nw bt mk f fr F W n' ga gl b M sv fv mk' f' fr' F' A L
theorem zpy
  (h:Pair B w n nw bt mk f fr F W n' ga gl ha hl b c D E M N sv fv mk' f' fr' F' A L A' L'):
  Calls Tryz.prog 83 #[.pointer (some ⟨bt,0,none⟩),.agg #[.bool b,.slice (some ⟨ga,0,none⟩) nw nw,.slice (some ⟨gl,0,none⟩) nw nw],.agg #[.bool c,.slice (some ⟨ha,0,none⟩) nw nw,.slice (some ⟨hl,0,none⟩) nw nw]] W fun e W2=>
   e=.returned (.agg #[.bool (b&&c),.slice (some ⟨ga,0,none⟩) nw nw,.slice (some ⟨hl,0,none⟩) nw nw])/\WrX B w n nw bt mk f fr F W2 n' ga hl (b&&c) (GA.seq M N)/\KU W W2:=by
 refine(zlB n' nw bt ga gl ha hl b c sv fv fr' F' A L A' L' W h.tk.l h.x h.y h.aa h.al h.ll h.e1 h.e2 h.e3 h.e4 (fun p _ hp=>((h.un p).1 (.inl (h.gx.la p hp))).2)).mono fun e W2 hs=>⟨hs.1,⟨_,_,_,_,_,_,_,_,h.seq hs⟩,KU.of hs.2.2.2 (fun k _ e=>?_)⟩
 rcases e with rfl|rfl|⟨p,hp,rfl⟩
 ·exact⟨_,_,h.x.fi⟩
 ·exact⟨_,_,h.y.la⟩
 ·exact⟨_,_,h.tk.fol.rows p hp⟩
theorem zrV
  (h:Pair B w n nw bt mk f fr F W n' ga gl ha hl b c D E M N sv fv mk' f' fr' F' A L A' L'):
  Calls Tryz.prog 84 #[.pointer (some ⟨bt,0,none⟩),.agg #[.bool b,.slice (some ⟨ga,0,none⟩) nw nw,.slice (some ⟨gl,0,none⟩) nw nw],.agg #[.bool c,.slice (some ⟨ha,0,none⟩) nw nw,.slice (some ⟨hl,0,none⟩) nw nw]] W fun e W2=>
   e=.returned (.agg #[.bool (b || c),.slice (some ⟨ga,0,none⟩) nw nw,.slice (some ⟨gl,0,none⟩) nw nw])/\WrX B w n nw bt mk f fr F W2 n' ga gl (b || c) (GA.alt M N)/\KU W W2:=by
 refine(zoi nw bt ga gl ha hl b c A L A' L' W h.x h.y h.aa h.al h.ll h.tk.nwl).mono fun e W2 hs=>⟨hs.1,⟨_,_,_,_,_,_,_,_,h.alt hs.2.1 hs.2.2⟩,KU.of hs.2.2 (fun k _ e=>?_)⟩
 rcases e with rfl|rfl
 ·exact⟨_,_,h.x.fi⟩
 ·exact⟨_,_,h.x.la⟩
theorem zrp
  (h:WrD B w n nw bt mk f fr F W n' ga gl b M sv fv mk' f' fr' F' A L):
  Calls Tryz.prog 104 #[.pointer (some ⟨bt,0,none⟩),.slice (some ⟨gl,0,none⟩) nw nw,.slice (some ⟨ga,0,none⟩) nw nw] W fun e W2=>
   e=.returned (.tuple #[])/\WrX B w n nw bt mk f fr F W2 n' ga gl true (GA.star M)/\KU W W2:=by
 refine(zme n' nw bt gl nw ga nw sv fv fr' F' L A W h.tk.l h.fg.la h.fg.fi h.el h.ea (fun p _ hp=>(h.good.la p hp).2)).mono fun e W2 hs=>⟨hs.1,⟨_,_,_,_,_,_,_,_,h.star hs.2.1 hs.2.2⟩,KU.of hs.2.2 (fun k _ ⟨p,hp,e⟩=>⟨_,_,e ▸ h.tk.fol.rows p hp⟩)⟩
def WrC(p:Pt):Prop:=∀(B n nw bt:Nat) (sv fv:Value) (mk:Nat->Nat) (f:Nat->Nat->Bool) (fr:Nat->Nat) (F:Nat->Nat->Nat) (w:World) (v:Value),Trk B w n nw bt sv fv mk f fr F->zaT w v p->wPt p<=2000->n+(wPt p).toNat<=64*nw->
 Calls Tryz.prog 53 #[.pointer (some ⟨bt,0,none⟩),v] w fun e W=>WrR B w n nw bt mk f fr F (wPt p).toNat (unf p) e W
end Go.Proofs.YthddplbodacjgaaGreatDoor
