import Derived.Test.YthdljcdbfmhleaaGreatDoorC18
import Derived.Deep.RegionHeld3
namespace Go.Proofs.YthdljcdbfmhleaaGreatDoor
set_option maxHeartbeats 4000000
set_option maxRecDepth 100000
open Go.RowKit
section
variable {w:World}{B n:Nat}{v:Value}{xs:List Value}
attribute [local go_sem ↓] Go.wp_at_zero Go.wp_at_succ
theorem zbp{e:TypeId}(h:w.ownsRow B e 1 v n xs):∃a c,v=.slice a n c:=by
 rcases h.2 with ⟨rfl,rfl⟩|⟨g,cap,_,rfl,_⟩
 ·exact⟨none,0,rfl⟩
 ·exact⟨_,_,rfl⟩
theorem zaP{k:Nat}{e:TypeId}(h:w.ownsRow B e 1 v n xs)(hk:v.ownBlock=some k):B<=k/\∃cur,w.heap[k]?=some (.cells cur e (0,0)):=by
 rcases h.2 with ⟨rfl,_⟩|⟨g,cap,cur,rfl,hg,hh,_⟩
 ·simp[Value.ownBlock] at hk
 ·simp[Value.ownBlock] at hk;subst hk;exact⟨hg,cur,hh⟩
theorem Tryz.infoPtrMarks:(Tryz.prog.info? 199).map (fun i=>(i.zero,i.size,i.bytes))=some (some (.pointer none),1,8):=by kernel_rfl
theorem Tryz.infoPosSet:(Tryz.prog.info? 129).map (fun i=>(i.zero,i.size,i.bytes))=some (some (.slice none 0 0),1,24):=by kernel_rfl
def appP(ats:Array TypeId)(ty:TypeId)(args:Array Value):Sem Value:=Builtin.append_ ats ty args
theorem zf6{P:Program}{ops:Array Oper}{o:Oper}{a:Act}{K:Act->World->Prop}{Q:Exit->Act->World->Prop}{E:Prop}(hgd:o.guard=none)(s x:Operand)(t:TypeId)(hop:o.op=Op.call {callee:=Callee.builtin Builtin.append,args:=#[s,x],argTypes:=#[t,t]})(u y:Value)(hu:a.eval s=u)(hy:a.eval x=y)(v:Value)(w':World)
  (hrun:(appP #[t,t] o.type #[u,y]).run P w=.ok v w') (hK:K (a.put o.dst v) w'):if Region.wanted o (yielded ops a.tmps)=true then Oper.wp P o a w K Q else E:=by
 have hw:Region.wanted o (yielded ops a.tmps)=true:=by simp[Region.wanted,hgd]
 rw[zst hw];unfold appP at hrun;unfold Oper.wp;simp[execOp,hop,resolve,invoke,builtin,hu,hy,hrun,Result.andThen];exact hK
theorem zhX(xs:Array Value)(w:World):(callFunc 107 xs).run Tryz.prog w=.ok (.enter 107 xs) w:=by kernel_rfl
theorem zgV{e:TypeId}(h:w.ownsRow B e 1 v (n+1) xs):∃g c,v=.slice (some ⟨g,0,none⟩) (n+1) c:=by
 rcases h.2 with ⟨_,h0⟩|⟨g,cap,_,rfl,_⟩
 ·omega
 ·exact⟨_,_,rfl⟩
theorem zk8(B n nw bt gn:Nat)(fv r:Value)(fr:Nat->Nat)(w7:World)(hfo:w7.ownsRow B 129 1 fv n (slcL fr nw n))(hbx:w7.heap[bt]?=some (.cells #[.int .i64 nw,r,fv] 207 (0,0)))(hB:B<=w7.heap.size)(hn:n<=64000):
  ∃g8 cap8 w8,(appP #[175,175] 175 #[fv,.slice (some ⟨w7.heap.size,0,none⟩) 1 1]).run Tryz.prog (w7.alloc (.cells #[.slice (some ⟨gn,0,none⟩) nw nw] 129))=.ok (.slice (some ⟨g8,0,none⟩) (n+1) cap8) w8/\w8.ownsRow B 129 1 (.slice (some ⟨g8,0,none⟩) (n+1) cap8) (n+1) (slcL fr nw n++[.slice (some ⟨gn,0,none⟩) nw nw])/\
   w7.grownBy w8 fv.ownBlock/\w8.heap[bt]?=some (.cells #[.int .i64 nw,r,fv] 207 (0,0)):=by
 obtain⟨i1,hj,hy0,hy1,hy2⟩:=info_parts Tryz.infoPosSet;obtain⟨v',w8,hap,hown,hgr,-⟩:=run_append_own (P:=Tryz.prog) (w7.alloc (.cells #[.slice (some ⟨gn,0,none⟩) nw nw] 129)) B 175 175 129 i1 _ 1 24 Tryz.underlying175 hj hy0 hy1 hy2 rfl (by decide) fv n (slcL fr nw n) (hfo.alloc _) ⟨w7.heap.size,0,none⟩ 1 1 [.slice (some ⟨gn,0,none⟩) nw nw] rfl (fun j u hj=>by
   match j,hj with
   |0,hj=>simp at hj;subst hj;simp[Addr.add]) (by intro u hu;simp at hu;subst hu;rfl) (by unfold maxLen;omega) (by omega) (by simp;omega)
 obtain⟨g8,cap8,rfl⟩:=zgV hown;have hgr':w7.grownBy w8 fv.ownBlock:=⟨hgr.os,hgr.tape,hgr.output,zsb (by simp) hgr.size,fun k hk hne=>by rw[hgr.block k (by simp;omega) hne,Below.heap_alloc _ _ _ hk]⟩;refine⟨g8,cap8,w8,hap,hown,hgr',(hgr'.block bt (zrc.1 hbx).1 (fun e=>?_)).trans hbx⟩;obtain⟨-,cur,e3⟩:=zaP hfo e.symm;rw[hbx] at e3;exact absurd (zad e3) (by decide)
theorem zan.drew{S:Nat->Prop}{W:World}(h:zan S w W):zan S w W.drew:=⟨h.os,h.tape,h.output,h.size,h.same⟩
theorem zo6{nw bt mg ga gl g5 cap5 g8 cap8:Nat}{sv fv:Value}{mk:Nat->Nat}{f:Nat->Nat->Bool}{fr:Nat->Nat}{F:Nat->Nat->Nat}{g:Nat->Bool}{w4 w5 W6 w7 w8:World}(h:Trk B w n nw bt sv fv mk f fr F)(hn:n<64*nw)(na:w.heap.size<=ga)(nl:w.heap.size<=gl)
  (H1:Trk B w4 n nw bt sv fv mk f fr F/\(∀(k:Nat) (cs:Array Value) (t:TypeId),w4.heap[k]?=some (.cells cs t (0,0))->t≠199->t≠207->W6.heap[k]?=some (.cells cs t (0,0)))/\W6.ownsRow B 199 1 (.slice (some ⟨g5,0,none⟩) (n+1) cap5) (n+1) (ptrL mk n++[.pointer (some ⟨mg,0,none⟩)])/\Below w.heap.size w w4/\w4.grownBy w5 sv.ownBlock/\w5.grownBy W6 (some bt))
  (H2:W6.heap[bt]?=some (.cells #[.int .i64 nw,.slice (some ⟨g5,0,none⟩) (n+1) cap5,fv] 207 (0,0))/\w4.heap[mg]?=some (.cells (zao g) 197 (0,0))/\FrAt w4 nw ga gl (addT zaQ n) (addT zaQ n)/\(∀k,sv.ownBlock=some k->B<=k/\∃cur,w4.heap[k]?=some (.cells cur 199 (0,0))))
  (H8:w8.ownsRow B 129 1 (.slice (some ⟨g8,0,none⟩) (n+1) cap8) (n+1) (slcL fr nw n++[.slice (some ⟨W6.heap.size,0,none⟩) nw nw])/\w7.grownBy w8 fv.ownBlock/\W6.drew.grownBy w7 none/\zal w7 nw W6.heap.size zaQ/\w8.heap[bt]?=some (.cells #[.int .i64 nw,.slice (some ⟨g5,0,none⟩) (n+1) cap5,fv] 207 (0,0))/\w7.ownsRow B 129 1 fv n (slcL fr nw n)):
  WrD B w n nw bt mk f fr F (w8.setCell ⟨bt,2,none⟩ (.slice (some ⟨g8,0,none⟩) (n+1) cap8)) (n+1) ga gl false (unD (.set g) n) (.slice (some ⟨g5,0,none⟩) (n+1) cap5) (.slice (some ⟨g8,0,none⟩) (n+1) cap8) (fun p=>if p=n then mg else mk p) (fun p=>if p=n then g else f p) (fun p=>if p=n then W6.heap.size else fr p) (fun p=>if p=n then zaQ else F p) (addT zaQ n) (addT zaQ n)/\Kp B w4 (w8.setCell ⟨bt,2,none⟩ (.slice (some ⟨g8,0,none⟩) (n+1) cap8)):=by
 obtain⟨h4,hk6,so6,hB4,hgr5,hg6⟩:=H1;obtain⟨b6,m4,hF4,hown0⟩:=H2;obtain⟨hown8,hgr8,hg7,hp7,b8,fo7⟩:=H8;have hbt:bt<w.heap.size:=(zrc.1 h.box).1;have hbb:=h.bb;have hs4:=hB4.size;have s46:w4.heap.size<=W6.heap.size:=zsb hgr5.size hg6.size;have hg9:=zaK w8 bt 2 (.slice (some ⟨g8,0,none⟩) (n+1) cap8);have b9:=zsr w8 bt 2 _ _ (.slice (some ⟨g8,0,none⟩) (n+1) cap8) b8;generalize w8.setCell ⟨bt,2,none⟩ (.slice (some ⟨g8,0,none⟩) (n+1) cap8)=W9 at *;have ht:zan (fun k=>k=bt\/sv.ownBlock=some k\/fv.ownBlock=some k) w4 W9:=
  ((((((zan.refl _ w4).grown hgr5 (fun k e=>.inl (.inr (.inl e)))).grown hg6 (fun k e=>.inl (.inl (by cases e;rfl)))).drew).grown hg7 (fun k e=>by cases e)).grown hgr8 (fun k e=>.inl (.inr (.inr e)))).grown hg9 (fun k e=>.inl (.inl (by cases e;rfl)))
 have hkp:Kp B w4 W9:=Kp.of_touch ht (by omega) (fun k hk e=>by
  rcases e with e|e|e
  ·subst e;exact⟨hbb,_,_,h4.box,.inl rfl⟩
  ·obtain⟨q1,cur,q2⟩:=hown0 k e;exact⟨q1,_,_,q2,.inr (.inl rfl)⟩
  ·obtain⟨q1,cur,q2⟩:=zaP h4.fo e;exact⟨q1,_,_,q2,.inr (.inr rfl)⟩)
 have k79:∀(k:Nat) (cs:Array Value) (t:TypeId),w7.heap[k]?=some (.cells cs t (0,0))->t≠129->t≠207->W9.heap[k]?=some (.cells cs t (0,0)):=fun k cs t e h1 h2=>by
  have e8:=(hgr8.block k (zrc.1 e).1 (fun e2=>by obtain⟨-,cur,e3⟩:=zaP fo7 e2.symm;rw[e] at e3;exact h1 (zad e3))).trans e;exact(hg9.block k (zrc.1 e8).1 (fun e2=>by cases e2;rw[b8] at e8;exact h2 (zad e8).symm)).trans e8
 have hfl:∀p,p<n->fr p<w.heap.size:=fun p hp=>(h.fol.rows p hp).glt
 have lga:=hF4.fi.glt;have lgl:=hF4.la.glt;have hif:∀{α:Type} (x:α) (y:Nat->α) (p:Nat),p<n->(if p=n then x else y p)=y p:=fun x y p hp=>zss (by omega)
 refine⟨⟨⟨b9,?_,?_,⟨fun p hp=>?_,fun p q hp hq e=>?_⟩,fun p hp=>?_,by omega,h.nwl,h4.bru.keep (hkp.low 0 h.b0),h.bb,h.b0⟩,hkp.frag hF4,by omega,na,nl,fun p hp=>?_,fun p hp=>?_,fun p hp=>⟨zss (by omega),zss (by omega),zss (by omega),zss (by omega)⟩,fun p h1 h2=>?_,?_,(Kp.of_below (by omega) hB4).trans hkp,by omega⟩,hkp⟩
 ·rw[zny,zst rfl,zlT (mk':=mk) (fun p hp=>zss (by omega))];exact zar so6 (fun k cs e=>k79 k cs _ ((hg7.block k (zrc.1 e).1 (by simp)).trans e) (by decide) (by decide))
 ·rw[znO,zst rfl,zlX (fr':=fr) (fun p hp=>zss (by omega))];exact zar hown8 (fun k cs e=>(hg9.block k (zrc.1 e).1 (fun e2=>by cases e2;rw[b8] at e;exact absurd (zad e) (by decide))).trans e)
 ·by_cases e:p=n
  ·rw[zst e,zst e];exact⟨k79 _ _ _ hp7.row (by decide) (by decide),hp7.lt⟩
  ·rw[zss e,zss e];exact hkp.pos (h4.fol.rows p (by omega))
 ·by_cases e1:p=n<;>by_cases e2:q=n
  ·omega
  ·rw[zst e1,zss e2] at e;have:=hfl q (by omega);omega
  ·rw[zss e1,zst e2] at e;have:=hfl p (by omega);omega
  ·rw[zss e1,zss e2] at e;exact h.fol.inj p q (by omega) (by omega) e
 ·by_cases e:p=n
  ·rw[zst e,zst e];exact hkp.typ _ _ _ m4 (by decide) (by decide) (by decide)
  ·rw[zss e,zss e];exact hkp.typ _ _ _ (h4.mks p (by omega)) (by decide) (by decide) (by decide)
 ·by_cases e:p=n
  ·rw[zst e];omega
  ·rw[zss e];have:=hfl p (by omega);omega
 ·by_cases e:p=n
  ·rw[zst e];omega
  ·rw[zss e];have:=hfl p (by omega);omega
 ·rw[zst (by omega)];omega
 ·have hin:∀p,(p=n)↔inT (addT zaQ n) p:=fun p=>by unfold inT;rw[zdn,zbL];simp
  refine(zmN (tk:=tkOf (fun p=>if p=n then g else f p)) (fol:=zfu (fun p=>if p=n then zaQ else F p)) (f:=g) (n:=n) (fun c=>?_) (fun q=>?_)).dom (fun p=>by omega) (by simp) hin hin
  ·show (if n=n then g else f n) c.toNat=true↔_;rw[zst rfl]
  ·show ¬zae (if n=n then zaQ else F n) q=true;rw[zst rfl,zbL];simp
theorem zjQ(B n nw bt mg:Nat)(sv fv:Value)(mk:Nat->Nat)(f:Nat->Nat->Bool)(fr:Nat->Nat)(F:Nat->Nat->Nat)(g:Nat->Bool)(w:World)(h:Trk B w n nw bt sv fv mk f fr F)(hm:w.heap[mg]?=some (.cells (zao g) 197 (0,0)))(hn:n<64*nw):
  Calls Tryz.prog 121 #[.pointer (some ⟨bt,0,none⟩),.pointer (some ⟨mg,0,none⟩)] w fun e W=>WrR B w n nw bt mk f fr F 1 (unD (.set g) n) e W:=by
 obtain⟨i0,hi,hz0,hz1,hz2⟩:=info_parts Tryz.infoPtrMarks;obtain⟨i1,hj,hy0,hy1,hy2⟩:=info_parts Tryz.infoPosSet;have hnw:=h.nwl;have hbt:bt<w.heap.size:=(zrc.1 h.box).1;obtain⟨ao,ca,rfl⟩:=zbp h.so;have hb0:Below w.heap.size w (w.alloc (.cells #[.bool false,.slice none 0 0,.slice none 0 0] 174)):=(Below.refl _ _).alloc (zsa _) _;have x0:(w.alloc (.cells #[.bool false,.slice none 0 0,.slice none 0 0] 174)).heap[w.heap.size]?=some (.cells #[.bool false,.slice none 0 0,.slice none 0 0] 174 (0,0)):=zsp _ _;have hba:=zi1 nw bt false (.slice ao n ca) fv _ ((hb0.block bt hbt).trans h.box) hnw
 go_enter Tryz.func121,Tryz.ntmps121
 go_wp2_with fail
 refine hba.mono ?_;rintro e w1 ⟨ga,gl,rfl,na,nl,hfr,hb1⟩;rw[World.size_alloc] at na nl;have x1:=(hb1.block _ (by simp)).trans x0;have hB1:Below w.heap.size w w1:=hb0.trans (hb1.mono (by simp));obtain⟨W2,hW2⟩:∃W2,W2=(w1.alloc (.cells #[.bool false,.slice (some ⟨ga,0,none⟩) nw nw,.slice (some ⟨gl,0,none⟩) nw nw] 174)):=⟨_,rfl⟩;have x5:W2.heap[w1.heap.size]?=some (.cells #[.bool false,.slice (some ⟨ga,0,none⟩) nw nw,.slice (some ⟨gl,0,none⟩) nw nw] 174 (0,0)):=by rw[hW2];exact zsp _ _
 have hb2:Below w1.heap.size w1 W2:=by rw[hW2];exact(Below.refl _ _).alloc (zsa _) _
 have y2:=hfr.below hb2;have x4:W2.heap[w.heap.size]?=_:=(hb2.block _ (zrc.1 x1).1).trans x1;have lga:=hfr.fi.glt;have lgl:=hfr.la.glt;have hne:=hfr.ne;have hbx:W2.heap[bt]?=_:=(hb2.block bt (zsc hbt hB1.size)).trans ((hB1.block bt hbt).trans h.box);have hadd:=zdH nw ga nw zaQ n W2.drew y2.fi.row hn hnw (fun _=>by simp[zaQ]);have c1:W2.cell? ⟨w1.heap.size,1,none⟩=some (.slice (some ⟨ga,0,none⟩) nw nw):=(zac x5).2.1;have c2:W2.cell? ⟨bt,1,none⟩=some (.slice ao n ca):=(zac hbx).2.1;have hs12:w1.heap.size<W2.heap.size:=(zrc.1 x5).1;have hs01:=hB1.size;go_wp2;rw[<-hW2];clear hW2
 go_region_held3 (fun w'=>w'.cell? ⟨w1.heap.size,1,none⟩=some (.slice (some ⟨ga,0,none⟩) nw nw)/\w'.cell? ⟨bt,1,none⟩=some (.slice ao n ca)) ((first|exact⟨c1,c2⟩|exact⟨(zac z5).2.1,(zac zb).2.1⟩|go_keep)) ((go_at_call 91;refine hadd.mono ?_;rintro e w3 ⟨rfl,hr3,hg3⟩;have z5:=(hg3.block (w1.heap.size) (by show _<W2.heap.size;omega) (by simp;omega)).trans x5;have zb:=(hg3.block bt (by show _<W2.heap.size;omega) (by simp;omega)).trans hbx))
 have z4:w3.heap[w.heap.size]?=_:=(hg3.block (w.heap.size) (by show _<W2.heap.size;omega) (by simp;omega)).trans x4;have zl:zal w3 nw gl zaQ:=⟨(hg3.block gl (by show _<W2.heap.size;omega) (by simp;omega)).trans y2.la.row,y2.la.lt⟩;have hs23:W2.heap.size<=w3.heap.size:=hg3.size;have hadd2:=zdH nw gl nw zaQ n w3.drew zl.row hn hnw (fun _=>by simp[zaQ]);have d1:w3.cell? ⟨w1.heap.size,2,none⟩=some (.slice (some ⟨gl,0,none⟩) nw nw):=(zac z5).2.2.1;have d2:w3.cell? ⟨bt,1,none⟩=some (.slice ao n ca):=(zac zb).2.1;clear c1 c2 hadd hba x0;go_wp2
 go_region_held3 (fun w'=>w'.cell? ⟨w1.heap.size,2,none⟩=some (.slice (some ⟨gl,0,none⟩) nw nw)/\w'.cell? ⟨bt,1,none⟩=some (.slice ao n ca)) ((first|exact⟨d1,d2⟩|exact⟨(zac y5).2.2.1,(zac yb).2.1⟩|go_keep)) ((go_at_call 91;refine hadd2.mono ?_;rintro e w4 ⟨rfl,hr4,hg4⟩;have y5:=(hg4.block (w1.heap.size) (by show _<w3.heap.size;omega) (by simp;omega)).trans z5;have yb:=(hg4.block bt (by show _<w3.heap.size;omega) (by simp;omega)).trans zb))
 have y4:w4.heap[w.heap.size]?=_:=(hg4.block (w.heap.size) (by show _<w3.heap.size;omega) (by simp;omega)).trans z4;have hs34:w3.heap.size<=w4.heap.size:=hg4.size;have hra:w4.heap[ga]?=_:=(hg4.block ga (by show _<w3.heap.size;omega) (by simp;omega)).trans hr3;have hT0:∀i,addT zaQ n i<18446744073709551616:=zeq zaQ (fun _=>by simp[zaQ]) n;have hF4:FrAt w4 nw ga gl (addT zaQ n) (addT zaQ n):=⟨⟨hra,hT0⟩,⟨hr4,hT0⟩,hne⟩;have hB4:Below w.heap.size w w4:=((hB1.trans (hb2.mono hs01)).drew.grown hg3 (by show _<=W2.heap.size;omega) (fun k e=>by cases e;omega)).drew.grown hg4 (by show _<=w3.heap.size;omega) (fun k e=>by cases e;omega);have h4:=h.below hB4;have m4:=(hB4.block mg (zrc.1 hm).1).trans hm;clear d1 d2 hadd2 hg3 hg4 z4 zl z5 zb x4 x5 x1 hbx hr3 hr4 hra y2 hb1 hb2 hB1 hb0 hfr;have k1:=(zac yb).2.1;have hown0:∀k,(Value.slice ao n ca).ownBlock=some k->B<=k/\∃cur,w4.heap[k]?=some (.cells cur 199 (0,0)):=fun k hk=>zaP h4.so hk
 have hkeep4:∀(w5:World),w4.grownBy w5 (Value.slice ao n ca).ownBlock->∀(k:Nat) (cs:Array Value) (t:TypeId),w4.heap[k]?=some (.cells cs t (0,0))->t≠199->w5.heap[k]?=some (.cells cs t (0,0)):=fun w5 hg k cs t e hne=>(hg.block k (zrc.1 e).1 (fun e2=>by
  obtain⟨-,cur,e3⟩:=hown0 k e2.symm;rw[e] at e3;exact hne (zad e3))).trans e
 go_wp2_with (refine zeI w4 _ rfl rfl (.tmp 28) (.tmp 30) 205 rfl B 199 i0 (.pointer none) 8 Tryz.underlying205 hi hz0 hz1 hz2 rfl (.slice ao n ca) n (ptrL mk n) (.pointer (some ⟨mg,0,none⟩)) rfl h4.so rfl rfl (by omega) (by omega) (by have:=h.bb;omega) ?_;intro g5 cap5 w5 hown5 hgr5 hat5;have v5:=hkeep4 w5 hgr5 _ _ _ yb (by decide);obtain⟨-,q1,-,-,fq1,-⟩:=zac v5)
 clear q1 fq1 k1;have v6:=zsr w5 bt 1 _ _ (.slice (some ⟨g5,0,none⟩) (n+1) cap5) v5;have hg6:=zaK w5 bt 1 (.slice (some ⟨g5,0,none⟩) (n+1) cap5);generalize hW6:w5.setCell ⟨bt,1,none⟩ (.slice (some ⟨g5,0,none⟩) (n+1) cap5)=W6 at *;clear hW6;have b6:W6.heap[bt]?=some (.cells #[.int .i64 nw,.slice (some ⟨g5,0,none⟩) (n+1) cap5,fv] 207 (0,0)):=v6;have hkeep6:∀(k:Nat) (cs:Array Value) (t:TypeId),w4.heap[k]?=some (.cells cs t (0,0))->t≠199->t≠207->W6.heap[k]?=some (.cells cs t (0,0)):=fun k cs t e h1 h2=>by
  have e5:=hkeep4 w5 hgr5 k cs t e h1;exact(hg6.block k (zrc.1 e5).1 (fun e2=>by cases e2;rw[v5] at e5;exact h2 (zad e5).symm)).trans e5
 have so6:W6.ownsRow B 199 1 (.slice (some ⟨g5,0,none⟩) (n+1) cap5) (n+1) (ptrL mk n++[.pointer (some ⟨mg,0,none⟩)]):=zar hown5 (fun k cs e=>(hg6.block k (zrc.1 e).1 (fun e2=>by cases e2;rw[v5] at e;exact absurd (zad e) (by decide))).trans e);have fo6:W6.ownsRow B 129 1 fv n (slcL fr nw n):=zar h4.fo (fun k cs e=>hkeep6 k cs _ e (by decide) (by decide));obtain⟨fo,cf,rfl⟩:=zbp fo6;have s46:w4.heap.size<=W6.heap.size:=zsb hgr5.size hg6.size;have hno:=zdQ nw bt (.slice (some ⟨g5,0,none⟩) (n+1) cap5) (.slice fo n cf) W6.drew b6 hnw;have bk6:=(zac b6).2.2.1;have hB0:=h.bb;have hB6:B<=W6.drew.heap.size:=by show B<=W6.heap.size;omega
 have hn6:n<=64000:=by omega
 have hrest:∀(w7:World),(zal w7 nw W6.heap.size zaQ/\W6.drew.grownBy w7 none)->∃g8 cap8 w8,w7.cell? ⟨bt,2,none⟩=some (.slice fo n cf)/\(w7.alloc (.cells #[.slice (some ⟨W6.heap.size,0,none⟩) nw nw] 129)).cell? ⟨bt,2,none⟩=some (.slice fo n cf)/\(appP #[175,175] 175 #[.slice fo n cf,.slice (some ⟨w7.heap.size,0,none⟩) 1 1]).run Tryz.prog (w7.alloc (.cells #[.slice (some ⟨W6.heap.size,0,none⟩) nw nw] 129))=.ok (.slice (some ⟨g8,0,none⟩) (n+1) cap8) w8/\w8.cell? ⟨bt,2,none⟩=some (.slice fo n cf)/\w8.frozen? ⟨bt,2,none⟩=false/\
   Hid (w8.ownsRow B 129 1 (.slice (some ⟨g8,0,none⟩) (n+1) cap8) (n+1) (slcL fr nw n++[.slice (some ⟨W6.heap.size,0,none⟩) nw nw])/\w7.grownBy w8 (Value.slice fo n cf).ownBlock/\W6.drew.grownBy w7 none/\zal w7 nw W6.heap.size zaQ/\w8.heap[bt]?=some (.cells #[.int .i64 nw,.slice (some ⟨g5,0,none⟩) (n+1) cap5,.slice fo n cf] 207 (0,0))/\w7.ownsRow B 129 1 (.slice fo n cf) n (slcL fr nw n)):=fun w7 ⟨hp7,hg7⟩=>by
  have b7:=(hg7.block bt (zrc.1 b6).1 (by simp)).trans b6;have fo7:=zar fo6 (fun k cs e=>(hg7.block k (zrc.1 e).1 (by simp)).trans e);obtain⟨g8,cap8,w8,hap,hown8,hgr8,b8⟩:=zk8 B n nw bt W6.heap.size (.slice fo n cf) _ fr w7 fo7 b7 (zsb hB6 hg7.size) hn6;exact⟨g8,cap8,w8,(zac b7).2.2.1,(zac (zah b7)).2.2.1,hap,(zac b8).2.2.1,(zac b8).2.2.2.2.2,hown8,hgr8,hg7,hp7,b8,fo7⟩
 have hall:Hid (Trk B w4 n nw bt (.slice ao n ca) (.slice fo n cf) mk f fr F/\(∀(k:Nat) (cs:Array Value) (t:TypeId),w4.heap[k]?=some (.cells cs t (0,0))->t≠199->t≠207->W6.heap[k]?=some (.cells cs t (0,0)))/\W6.ownsRow B 199 1 (.slice (some ⟨g5,0,none⟩) (n+1) cap5) (n+1) (ptrL mk n++[.pointer (some ⟨mg,0,none⟩)])/\Below w.heap.size w w4/\w4.grownBy w5 (Value.slice ao n ca).ownBlock/\w5.grownBy W6 (some bt)):=⟨h4,hkeep6,so6,hB4,hgr5,hg6⟩;have hmore:Hid (W6.heap[bt]?=some (.cells #[.int .i64 nw,.slice (some ⟨g5,0,none⟩) (n+1) cap5,.slice fo n cf] 207 (0,0))/\w4.heap[mg]?=some (.cells (zao g) 197 (0,0))/\FrAt w4 nw ga gl (addT zaQ n) (addT zaQ n)/\(∀k,(Value.slice ao n ca).ownBlock=some k->B<=k/\∃cur,w4.heap[k]?=some (.cells cur 199 (0,0)))):=⟨b6,m4,hF4,hown0⟩;have hfrag:Hid (w4.heap[w.heap.size]?=some (.cells #[.bool false,.slice none 0 0,.slice none 0 0] 174 (0,0))/\w4.heap[w1.heap.size]?=some (.cells #[.bool false,.slice (some ⟨ga,0,none⟩) nw nw,.slice (some ⟨gl,0,none⟩) nw nw] 174 (0,0))):=⟨y4,y5⟩;clear h4 hkeep6 so6 hB4 hgr5 hg6 b6 m4 hF4 hown0 y4 y5 hkeep4 v6 v5 yb fo6 hown5 hat5 hi hz0 hz1 hz2 hj hy0 hy1 hy2 hT0
 go_region_law ((first|(refine zdi (by rfl) 107 #[.tmp 39] #[172] (by rfl) #[.pointer (some ⟨bt,0,none⟩)] (by simp[Act.eval,Act.put]) (.slice (some ⟨W6.heap.size,0,none⟩) nw nw) (fun w'=>zal w' nw W6.heap.size zaQ/\W6.drew.grownBy w' none) (zhX _ _) hno ?_;intro w7 hp7;obtain⟨g8,cap8,w8,bk7,bk7',hap,bk8,fk8,H8⟩:=hrest w7 hp7;clear hp7)|(refine zf6 (by rfl) (.tmp 38) (.tmp 41) 175 (by rfl) _ _ (by rfl) (by rfl) _ _ hap ?_)))
 all_goals
  obtain⟨D9,K9⟩:=zo6 h hn (by omega) (by omega) hall.out hmore.out H8.out;have u4:=K9.typ _ _ _ hfrag.out.1 (by decide) (by decide) (by decide);have u5:=K9.typ _ _ _ hfrag.out.2 (by decide) (by decide) (by decide);generalize w8.setCell ⟨bt,2,none⟩ (.slice (some ⟨g8,0,none⟩) (n+1) cap8)=W9 at *;obtain⟨a0,a1,a2,-,-,-⟩:=zac u5;obtain⟨k0,k1,k2,f0,f1,f2⟩:=zac u4;have hpos:=zbm h.bru;clear hall hmore hfrag H8 K9 h hm hap bk7 bk7' bk8 fk8 hrest hno bk6;go_wp2;refine zsl (v:=.agg #[.bool false,.slice (some ⟨ga,0,none⟩) nw nw,.slice (some ⟨gl,0,none⟩) nw nw]) (by simp[results,Tryz.results121,go_sem,k0,k1,k2]) rfl (D9.ret u4 (zsa _) hpos (zsa _))
end
section
variable {sz:Nat}{f:Nat -> List Value}
theorem zaO{w w':World}{base:Nat}{e:TypeId}{n:Nat}{v:Value}{xs:List Value}(h:w.ownsRow base e sz v n xs)(hb:∀b,v.ownBlock=some b->w'.heap[b]?=w.heap[b]?):w'.ownsRow base e sz v n xs:=by
 obtain⟨h1,h2⟩:=h;refine⟨h1,?_⟩;rcases h2 with h0|⟨g,cap,cur,rfl,hg,hh,r⟩
 ·exact .inl h0
 ·exact .inr ⟨g,cap,cur,rfl,hg,(hb g rfl).trans hh,r⟩
theorem zaS{P:Program}{ops:Array Oper}{rest:List Oper}{o:Oper}{a:Act}{Q:Exit->Act->World->Prop}{W:World}(hgd:o.guard=none)(s x:Operand)(t:TypeId)
  (ho:o.op=.call {callee:=.builtin .append,args:=#[s,x],argTypes:=#[t,t]}) (w:World) (us:Array Value) (e:TypeId) (hW:W=w.alloc (.cells us e)) (H:Nat) (hH:w.heap.size=H)
  (base:Nat) (i:TypeInfo) (z:Value) (sz bytes:Nat) (ht:P.underlying t=some (.slice e)) (hi:P.info? e=some i) (hz:i.zero=some z)
  (hsize:i.size=sz) (hby:i.bytes=bytes) (hzs:z.cells.size=sz) (hsz:0<sz)
  (v:Value) (n:Nat) (xs:List Value) (hs:a.eval s=v) (hown:w.ownsRow base e sz v n xs)
  (hx:a.eval x=.slice (some ⟨H,0,none⟩) 1 1) (hl:us.size=sz) (h1:∀u∈us.toList,u.oneCell'=true) (hn:n<=2000000) (hbytes:bytes<=1000) (hbase:base<=w.heap.size)
  (h:∀g' cap' w',w'.ownsRow base e sz (.slice (some ⟨g',0,none⟩) (n+1) cap') (n+1) (xs++us.toList)->w.grownBy w' v.ownBlock->(v.ownBlock=some g'\/w.heap.size<=g')->wpList P ops Q rest (a.put o.dst (.slice (some ⟨g',0,none⟩) (n+1) cap')) w'):
  wpList P ops Q (o::rest) a W:=by
 subst hW hH;refine wpList_append_lies _ hgd s x t ho base e i z sz bytes ht hi hz hsize hby hzs hsz v n xs hs (hown.alloc _) ⟨w.heap.size,0,none⟩ 1 1 us.toList hx (by simp[hl]) ?_ h1 (by omega) (by unfold maxLen;omega) ?_ (by simp;omega) (w.heap.size+1) (by simp) ?_
 ·intro j y hv;have e1:(⟨w.heap.size,0,none⟩:Addr).add j=⟨w.heap.size,j,none⟩:=by unfold Addr.add;split<;>simp_all
  rw[e1,zsm _ _ _ _ _ _ (zsp w _)];rw[<-hv];simp
 ·have:(n+1)*bytes<=2000001*1000:=Nat.mul_le_mul (by omega) hbytes;omega
 ·intro g' cap' w' ho2 hgr hat hlt;refine h g' cap' w' ho2 ⟨hgr.os,hgr.tape,hgr.output,zsb (by simp) hgr.size,fun k hk hne=>?_⟩ ?_
  ·rw[hgr.block k (by simp;omega) hne,Below.heap_alloc _ _ _ hk]
  ·rcases hat with hat|hat
   ·exact .inl hat
   ·exact .inr (by omega)
theorem zfa(h:∀k,(f k).length=sz)(n:Nat):((List.range n).flatMap f).length=n*sz:=by
 induction n with
 |zero=>simp
 |succ n ih=>rw[zr3,List.flatMap_append,zrK,ih];simp[h,Nat.succ_mul]
theorem zoq(h:∀k,(f k).length=sz)(n k j:Nat)(hk:k<n)(hj:j<sz):((List.range n).flatMap f)[k*sz+j]?=(f k)[j]?:=by
 induction n with
 |zero=>omega
 |succ n ih=>
  rw[zr3,List.flatMap_append]
  by_cases e:k<n
  ·rw[zry,ih e];rw[zfa h];have:(k+1)*sz<=n*sz:=Nat.mul_le_mul_right _ e;rw[Nat.succ_mul] at this;omega
  ·have e2:k=n:=by omega
   subst e2;rw[zrz (by rw[zfa h];omega),zfa h,Nat.add_sub_cancel_left];simp
theorem zln{g:Nat->List Value}(n:Nat)(h:∀k,k<n->f k=g k):(List.range n).flatMap f=(List.range n).flatMap g:=by
 induction n with
 |zero=>rfl
 |succ n ih=>rw[zr3,List.flatMap_append,List.flatMap_append,ih fun k hk=>h k (by omega)];simp[h n (by omega)]
theorem zmI(f:Nat->List Value)(n:Nat):(List.range (n+1)).flatMap f=(List.range n).flatMap f++f n:=by rw[zr3,List.flatMap_append];simp
theorem zbD(w:World)(e:TypeId)(sz B H:Nat)(hB:B<=H)(hH:w.heap.size=H):(w.alloc (.cells #[] e)).ownsRow B e sz (.slice (some ⟨H,0,none⟩) 0 0) 0 []:=by
 subst hH;exact⟨by simp,.inr ⟨w.heap.size,0,#[],rfl,hB,zsp _ _,by simp,by simp[maxLen],by simp,by simp⟩⟩
end
section
variable {w w':World}{O:Nat -> Prop}{r nw bt ga gl gm gv m:Nat}{lv sS sP:Value}{L gx:Nat -> Nat}{Ts:Nat -> Nat -> Nat}{es:List (Int×Int)}
attribute [local go_sem ↓] Go.wp_at_zero Go.wp_at_succ
def zbM(nw:Nat)(Ts:Nat->Nat->Nat)(m:Nat):List ByteArray:=(List.range m).map fun i=>keyB nw (Ts i)
theorem zcE(nw:Nat)(Ts:Nat->Nat->Nat)(m:Nat):(zbM nw Ts m).length=m:=by simp[zbM]
def stL(nw:Nat)(Ts:Nat->Nat->Nat)(L:Nat->Nat)(m:Nat):List Value:=(List.range m).map fun i=>Value.bool (zb8 nw (Ts i) L)
structure RdS(O:Nat->Prop)(w:World)(r nw bt ga gl:Nat)(lv:Value)(L:Nat->Nat)(gm gv:Nat)(sS sP:Value)(gx:Nat->Nat)(Ts:Nat->Nat->Nat)(m:Nat)(es:List (Int×Int)):Prop where
 box:w.heap[r]?=some (.cells #[.pointer (some ⟨bt,0,none⟩),lv,.slice (some ⟨ga,0,none⟩) nw nw,.slice (some ⟨gl,0,none⟩) nw nw,.map (some gm),sS,sP,.map (some gv)] 182 (0,0))
 nm:w.heap[gm]?=some (.map (regE Value.string (zbM nw Ts m)) m)
 mv:w.heap[gv]?=some (.map (moE es) es.length)
 so:w.ownsRow 0 129 1 sS m (slcL gx nw m)
 po:w.ownsRow 0 4 1 sP m (stL nw Ts L m)
 set:∀i,i<m->zal w nw (gx i) (Ts i)
 dif:gm≠gv
 or:O r
 om:O gm
 ov:O gv
 os:∀k,sS.ownBlock=some k->O k
 op:∀k,sP.ownBlock=some k->O k
 ox:∀i,i<m->O (gx i)
 nd:∀i j,i<m->j<m->(∀x,x<nw->Ts i x=Ts j x)->i=j
theorem zaM{g:Nat}{a0 a1 a2 a3 a4 a5 a6 a7:Value}{t:TypeId}(h:w.heap[g]?=some (.cells #[a0,a1,a2,a3,a4,a5,a6,a7] t (0,0))):w.cell? ⟨g,0,none⟩=some a0/\w.cell? ⟨g,1,none⟩=some a1/\w.cell? ⟨g,2,none⟩=some a2/\w.cell? ⟨g,3,none⟩=some a3/\w.cell? ⟨g,4,none⟩=some a4/\w.cell? ⟨g,5,none⟩=some a5/\w.cell? ⟨g,6,none⟩=some a6/\w.cell? ⟨g,7,none⟩=some a7:=by
 have:∀o,w.cell? ⟨g,o,none⟩=#[a0,a1,a2,a3,a4,a5,a6,a7][o]?:=fun _=>zsm _ _ _ _ _ _ h
 exact⟨this 0,this 1,this 2,this 3,this 4,this 5,this 6,this 7⟩
theorem zd8{e:TypeId}{sz n:Nat}{v:Value}{xs:List Value}(h:w.ownsRow 0 e sz v n xs)(hk:∀k,v.ownBlock=some k->w'.heap[k]?=w.heap[k]?):w'.ownsRow 0 e sz v n xs:=zaO h hk
theorem RdS.keep(h:RdS O w r nw bt ga gl lv L gm gv sS sP gx Ts m es)(hk:∀k,O k->k<w.heap.size->w'.heap[k]?=w.heap[k]?):RdS O w' r nw bt ga gl lv L gm gv sS sP gx Ts m es:=by
 have hl:∀{k:Nat} {o:Obj},w.heap[k]?=some o->k<w.heap.size:=fun h=>(zrc.1 h).1
 refine⟨(hk r h.or (hl h.box)).trans h.box,(hk gm h.om (hl h.nm)).trans h.nm,(hk gv h.ov (hl h.mv)).trans h.mv,zd8 h.so fun k e=>hk k (h.os k e) ?_,zd8 h.po fun k e=>hk k (h.op k e) ?_,fun i hi=>⟨(hk _ (h.ox i hi) (h.set i hi).glt).trans (h.set i hi).row,(h.set i hi).lt⟩,h.dif,h.or,h.om,h.ov,h.os,h.op,h.ox,h.nd⟩
 ·obtain⟨-,cur,e3⟩:=zaP h.so e;exact hl e3
 ·obtain⟨-,cur,e3⟩:=zaP h.po e;exact hl e3
theorem RdS.mono{O':Nat->Prop}(h:RdS O w r nw bt ga gl lv L gm gv sS sP gx Ts m es)(ho:∀k,O k->O' k):RdS O' w r nw bt ga gl lv L gm gv sS sP gx Ts m es:=
 ⟨h.box,h.nm,h.mv,h.so,h.po,h.set,h.dif,ho _ h.or,ho _ h.om,ho _ h.ov,fun k e=>ho _ (h.os k e),fun k e=>ho _ (h.op k e),fun i hi=>ho _ (h.ox i hi),h.nd⟩
theorem RdS.lt(h:RdS O w r nw bt ga gl lv L gm gv sS sP gx Ts m es):RdS (fun k=>O k/\k<w.heap.size) w r nw bt ga gl lv L gm gv sS sP gx Ts m es:=by
 have hl:∀{k:Nat} {o:Obj},w.heap[k]?=some o->k<w.heap.size:=fun h=>(zrc.1 h).1
 refine⟨h.box,h.nm,h.mv,h.so,h.po,h.set,h.dif,⟨h.or,hl h.box⟩,⟨h.om,hl h.nm⟩,⟨h.ov,hl h.mv⟩,fun k e=>⟨h.os k e,?_⟩,fun k e=>⟨h.op k e,?_⟩,fun i hi=>⟨h.ox i hi,(h.set i hi).glt⟩,h.nd⟩
 ·obtain⟨-,cur,e3⟩:=zaP h.so e;exact hl e3
 ·obtain⟨-,cur,e3⟩:=zaP h.po e;exact hl e3
theorem zm0{T:Nat->Nat}(h1:∀i,i<m->∀x,Ts i x<18446744073709551616)(h2:∀x,T x<18446744073709551616)(h:keyB nw T∈zbM nw Ts m):idxR (zbM nw Ts m) (keyB nw T)<m/\∀x,x<nw->Ts (idxR (zbM nw Ts m) (keyB nw T)) x=T x:=by
 have hl:=zc4.2 h;rw[zcE] at hl;refine⟨hl,?_⟩;have hg:=zoz h;generalize idxR (zbM nw Ts m) (keyB nw T)=i at *;have:(zbM nw Ts m)[i]?=some (keyB nw (Ts i)):=by simp[zbM,hl]
 rw[this] at hg;exact(zmY (h1 i hl) h2).1 (Option.some.inj hg)
def NumP(O:Nat->Prop)(w:World)(r nw bt ga gl:Nat)(lv:Value)(L:Nat->Nat)(gm gv:Nat)(gx:Nat->Nat)(Ts:Nat->Nat->Nat)(m:Nat)(es:List (Int×Int))(g:Nat)(T:Nat->Nat)(e:Ending)(w':World):Prop:=
 ∃(i m':Nat) (sS sP:Value) (gx':Nat->Nat) (Ts':Nat->Nat->Nat),e=.returned (.int .i64 i)/\RdS (fun k=>O k\/k=g\/w.heap.size<=k) w' r nw bt ga gl lv L gm gv sS sP gx' Ts' m' es/\i<m'/\m<=m'/\m'<=m+1/\(∀j,j<m->gx' j=gx j/\Ts' j=Ts j)/\(∀x,x<nw->Ts' i x=T x)/\(∀j,m<=j->j<m'->j=i)/\zan O w w'
theorem zlP(h:RdS O w r nw bt ga gl lv L gm gv sS sP gx Ts m es)(g:Nat)(T:Nat->Nat)(hT:zal w nw g T)(hnw:nw<=1000)(hk:keyB nw T∈zbM nw Ts m):
  Calls Tryz.prog 113 #[.pointer (some ⟨r,0,none⟩),.slice (some ⟨g,0,none⟩) nw nw] w fun e w'=>NumP O w r nw bt ga gl lv L gm gv gx Ts m es g T e w':=by
 obtain⟨hi1,hi2⟩:=zm0 (fun i hi=>(h.set i hi).lt) hT.lt hk;have hkey:=fun(W:World) (hb:Below w.heap.size w W)=>zpB nw g nw T W (hT.below hb) hnw
 have hnum:=fun(W:World) (hb:Below w.heap.size w W)=>zgN gm (zbM nw Ts m) (keyB nw T) W (by rw[zcE];exact(hb.block gm (zrc.1 h.nm).1).trans h.nm)
 obtain⟨b0,b1,b2,b3,b4,b5,b6,b7⟩:=zaM h.box;have hrl:=(zrc.1 h.box).1;have HB0:Below w.heap.size w w.drew:=(Below.refl _ _).drew;have Hbel:∀W W',Below w.heap.size w W->W.grownBy W' (some gm)->W'.heap[gm]?=some (.map (regE Value.string (zbM nw Ts m)) m)->Below w.heap.size w W':=fun W W' hb hg hm=>⟨hg.os.trans hb.os,hg.tape.trans hb.tape,hg.output.trans hb.output,zsb hb.size hg.size,fun k hk=>by
  by_cases e:k=gm
  ·rw[e,hm,h.nm]
  ·rw[hg.block k (zsc hk hb.size) (by simpa using e),hb.block k hk]⟩
 have Hres:Hid (∀W,Below w.heap.size w W->∀W',W.grownBy W' (some gm)->W'.heap[gm]?=some (.map (regE Value.string (zbM nw Ts m)) m)->NumP O w r nw bt ga gl lv L gm gv gx Ts m es g T (.returned (.int .i64 (idxR (zbM nw Ts m) (keyB nw T)))) W'):=fun W hb W' hg hm=>by
  have same:∀k,k<w.heap.size->W'.heap[k]?=w.heap[k]?:=fun k hk=>by
   by_cases e:k=gm
   ·rw[e,hm,h.nm]
   ·rw[hg.block k (zsc hk hb.size) (by simpa using e),hb.block k hk]
  exact⟨_,m,sS,sP,gx,Ts,rfl,(h.keep fun k _ hl=>same k hl).mono fun k hk=>.inl hk,hi1,zsa _,by omega,fun _ _=>⟨rfl,rfl⟩,hi2,fun j h1 h2=>by omega,hg.os.trans hb.os,hg.tape.trans hb.tape,hg.output.trans hb.output,zsb hb.size hg.size,fun k hk _=>same k hk⟩
 have hadd:addR (zbM nw Ts m) (keyB nw T)=zbM nw Ts m:=by unfold addR;rw[zst hk]
 clear h hT hi2
 go_enter Tryz.func113,Tryz.ntmps113
 go_wp2
 go_region_held3 (fun w'=>Below w.heap.size w w'/\w'.cell? ⟨r,4,none⟩=some (.map (some gm))) ((first|exact⟨HB0,b4⟩|exact⟨hbl6,(hbl6.cell (p:=⟨r,4,none⟩) hrl).trans b4⟩|exact⟨zaa HB0 HB0.size hb5,(hb5.cell (p:=⟨r,4,none⟩) (by show r<w.heap.size;exact hrl)).trans b4⟩|go_keep)) ((first|(go_at_call 129;refine(hkey _ (by first|exact HB0|exact(‹Below w.heap.size w _/\_›).1)).mono ?_;rintro e w5 ⟨rfl,hb5⟩)|(go_at_call 128;refine(hnum _ (by first|exact HB0|exact(‹Below w.heap.size w _/\_›).1)).mono ?_;rintro e w6 ⟨he,hm6,hg6⟩;rw[hadd,zcE] at hm6;have hbl6:=Hbel _ _ (zaa HB0 HB0.size hb5) hg6 hm6;simp only[hk,not_true_eq_false,decide_false] at he;subst he)))
 all_goals
  have hfin:=Hres.out _ (zaa HB0 HB0.size hb5) _ hg6 hm6;have Hfin:Hid _:=hfin;clear hfin Hres Hbel hkey hnum hadd;go_wp2;exact zsl (v:=.int .i64 (idxR (zbM nw Ts m) (keyB nw T))) (by simp[results,Tryz.results113,go_sem]) rfl Hfin.out
end
section
variable {gm r nw bt ga gl gv m:Nat}{w w':World}{O:Nat -> Prop}{lv sS sP:Value}{L gx:Nat -> Nat}{Ts:Nat -> Nat -> Nat}{es:List (Int×Int)}
attribute [local go_sem ↓] Go.wp_at_zero Go.wp_at_succ
theorem Tryz.infoBoolR:(Tryz.prog.info? 4).map (fun i=>(i.zero,i.size,i.bytes))=some (some (.bool false),1,1):=by kernel_rfl
theorem zli(xs:Array Value)(w:World):(callFunc 130 xs).run Tryz.prog w=.ok (.enter 130 xs) w:=by kernel_rfl
theorem zbJ{P:Program}{ops:Array Oper}{rest:List Oper}{o:Oper}{a:Act}{Q:Exit->Act->World->Prop}(w:World)(H:Nat)(hH:w.heap.size=H)(hgd:o.guard=none)(s x:Operand)(t:TypeId)
  (ho:o.op=.call {callee:=.builtin .append,args:=#[s,x],argTypes:=#[t,t]})
  (base:Nat) (e:TypeId) (i:TypeInfo) (z:Value) (bytes:Nat) (ht:P.underlying t=some (.slice e)) (hi:P.info? e=some i) (hz:i.zero=some z)
  (hsize:i.size=1) (hby:i.bytes=bytes) (hzs:z.cells.size=1)
  (v:Value) (n:Nat) (xs:List Value) (u:Value) (hs:a.eval s=v) (hown:w.ownsRow base e 1 v n xs)
  (hx:a.eval x=.slice (some ⟨H,0,none⟩) 1 1) (h1:u.oneCell'=true) (hn:n<=100000000) (hbytes:bytes<=64) (hbase:base<=w.heap.size)
  (h:∀g' cap' w',w'.ownsRow base e 1 (.slice (some ⟨g',0,none⟩) (n+1) cap') (n+1) (xs++[u])->w.grownBy w' v.ownBlock->(v.ownBlock=some g'\/H<g')->wpList P ops Q rest (a.put o.dst (.slice (some ⟨g',0,none⟩) (n+1) cap')) w'):
  wpList P ops Q (o::rest) a (w.alloc (.cells #[u] e)):=by
 subst hH;refine wpList_append_lies _ hgd s x t ho base e i z 1 bytes ht hi hz hsize hby hzs (by omega) v n xs hs (zar hown fun k cs e=>zah e) ⟨w.heap.size,0,none⟩ 1 1 [u] hx rfl ?_ ?_ (by omega) (by unfold maxLen;omega) ?_ (by simp;omega) (w.heap.size+1) (by simp) ?_
 ·intro j v hv
  match j,hv with
  |0,hv=>simp at hv;subst hv;simp[Addr.add]
 ·intro v hv;simp at hv;subst hv;exact h1
 ·have:(n+1)*bytes<=100000001*64:=Nat.mul_le_mul (by omega) hbytes;omega
 ·intro g' cap' w' ho2 hgr hat hlt;refine h g' cap' w' ho2 ⟨hgr.os,hgr.tape,hgr.output,zsb (by simp) hgr.size,fun k hk hne=>?_⟩ ?_
  ·rw[hgr.block k (by simp;omega) hne,Below.heap_alloc _ _ _ hk]
  ·rcases hat with hat|hat
   ·exact .inl hat
   ·exact .inr (by omega)
theorem zob(m:Nat)(sP:Value)(xs:List Value)(b:Bool)(w:World)(h:w.ownsRow 0 4 1 sP m xs)(hm:m<=100000000):
  ∃g c w',(appP #[67,67] 67 #[sP,.slice (some ⟨w.heap.size,0,none⟩) 1 1]).run Tryz.prog (w.alloc (.cells #[.bool b] 4))=.ok (.slice (some ⟨g,0,none⟩) (m+1) c) w'/\w'.ownsRow 0 4 1 (.slice (some ⟨g,0,none⟩) (m+1) c) (m+1) (xs++[.bool b])/\w.grownBy w' sP.ownBlock/\(sP.ownBlock=some g\/w.heap.size<=g):=by
 obtain⟨i1,hj,hy0,hy1,hy2⟩:=info_parts Tryz.infoBoolR;obtain⟨g8,cap8,w8,hap,hown,hgr,hat,hlt⟩:=run_append_lies (P:=Tryz.prog) (w.alloc (.cells #[.bool b] 4)) 67 67 0 4 i1 _ 1 1 Tryz.underlying67 hj hy0 hy1 hy2 rfl (by decide) sP m xs (h.alloc _) ⟨w.heap.size,0,none⟩ 1 1 [.bool b] rfl (fun j u hj=>by
   match j,hj with
   |0,hj=>simp at hj;subst hj;simp[Addr.add]) (by intro u hu;simp at hu;subst hu;rfl) (by omega) (by unfold maxLen;omega) (by omega) (by simp) (w.heap.size+1) (by simp)
 exact⟨g8,cap8,w8,hap,hown,⟨hgr.os,hgr.tape,hgr.output,zsb (by simp) hgr.size,fun k hk hne=>by rw[hgr.block k (by simp;omega) hne,Below.heap_alloc _ _ _ hk]⟩,hat.imp id fun e=>by omega⟩
theorem zlt(nw:Nat)(Ts:Nat->Nat->Nat)(T:Nat->Nat)(m:Nat):zbM nw Ts m++[keyB nw T]=zbM nw (fun i=>if i=m then T else Ts i) (m+1):=by
 simp only[zbM,zr3,zrO,zrQ,List.map_nil,zst]
 congr 1
 exact zrP fun i hi=>by rw[zss (by have:=zrX.1 hi;omega)]
theorem zpl(nw:Nat)(Ts:Nat->Nat->Nat)(L T:Nat->Nat)(m:Nat):stL nw Ts L m++[.bool (zb8 nw T L)]=stL nw (fun i=>if i=m then T else Ts i) L (m+1):=by
 simp only[stL,zr3,zrO,zrQ,List.map_nil,zst]
 congr 1
 exact zrP fun i hi=>by rw[zss (by have:=zrX.1 hi;omega)]
theorem ziF(gx:Nat->Nat)(nw g m:Nat):slcL gx nw m++[.slice (some ⟨g,0,none⟩) nw nw]=slcL (fun i=>if i=m then g else gx i) nw (m+1):=by
 simp only[slcL,zr3,zrO,zrQ,List.map_nil,zst]
 congr 1
 exact zrP fun i hi=>by rw[zss (by have:=zrX.1 hi;omega)]
structure KR(gm:Nat)(w w':World):Prop where
 u:∀(k:Nat) (cs:Array Value),w.heap[k]?=some (.cells cs 185 (0,0))->w'.heap[k]?=some (.cells cs 185 (0,0))
 m:∀(k:Nat) (es:Array MapEntry) (c:Nat),w.heap[k]?=some (.map es c)->k≠gm->w'.heap[k]?=some (.map es c)
theorem KR.trans{a b c:World}(h:KR gm a b)(k:KR gm b c):KR gm a c:=⟨fun i cs e=>k.u i cs (h.u i cs e),fun i es x e hn=>k.m i es x (h.m i es x e hn) hn⟩
theorem KR.below(h:Below w.heap.size w w'):KR gm w w':=⟨fun k _ e=>(h.block k (zrc.1 e).1).trans e,fun k _ _ e _=>(h.block k (zrc.1 e).1).trans e⟩
theorem KR.grown{g:Nat}{o:Option Nat}(h:w.grownBy w' o)(hg:o=some g->g=gm\/∃cs t,w.heap[g]?=some (.cells cs t (0,0))/\t≠185)(ho:∀k,o=some k->k=g)(hmap:∀(cs:Array Value),w.heap[gm]?≠some (.cells cs 185 (0,0))):KR gm w w':=by
 refine⟨fun k cs e=>(h.block k (zrc.1 e).1 fun e2=>?_).trans e,fun k es c e hn=>(h.block k (zrc.1 e).1 fun e2=>?_).trans e⟩
 ·have:=ho k e2.symm;subst this;rcases hg e2.symm with rfl|⟨cs',t,h1,h2⟩
  ·exact hmap cs e
  ·rw[e] at h1;exact h2 (zad h1).symm
 ·have:=ho k e2.symm;subst this;rcases hg e2.symm with h1|⟨cs',t,h1,h2⟩
  ·exact hn h1
  ·rw[e] at h1;cases h1
theorem zlO(h:RdS O w r nw bt ga gl lv L gm gv sS sP gx Ts m es)(g:Nat)(T:Nat->Nat)(hT:zal w nw g T)(hL:zal w nw gl L)(hnw:nw<=1000)(hm:m<=100000000)(hk:keyB nw T∉zbM nw Ts m):
  Calls Tryz.prog 113 #[.pointer (some ⟨r,0,none⟩),.slice (some ⟨g,0,none⟩) nw nw] w fun e w'=>NumP O w r nw bt ga gl lv L gm gv gx Ts m es g T e w':=by
 obtain⟨i1,hj,hy0,hy1,hy2⟩:=info_parts Tryz.infoPosSet;have hkey:=fun(W:World) (hb:Below w.heap.size w W)=>zpB nw g nw T W (hT.below hb) hnw
 have hnum:=fun(W:World) (hb:Below w.heap.size w W)=>zgN gm (zbM nw Ts m) (keyB nw T) W (by rw[zcE];exact(hb.block gm (zrc.1 h.nm).1).trans h.nm)
 obtain⟨b0,b1,b2,b3,b4,b5,b6,b7⟩:=zaM h.box;have hrl:=(zrc.1 h.box).1;have HB0:Below w.heap.size w w.drew:=(Below.refl _ _).drew;have hadd:addR (zbM nw Ts m) (keyB nw T)=zbM nw (fun i=>if i=m then T else Ts i) (m+1):=by unfold addR;rw[zss hk,zlt]
 have hidx:idxR (zbM nw Ts m) (keyB nw T)=m:=by rw[zkr hk,zcE]
 have H:Hid (RdS O w r nw bt ga gl lv L gm gv sS sP gx Ts m es):=h;have HT:Hid (zal w nw g T):=hT;have HL:Hid (zal w nw gl L):=hL;have HND:Hid (∀i j,i<m+1->j<m+1->(∀x,x<nw->(fun i=>if i=m then T else Ts i) i x=(fun i=>if i=m then T else Ts i) j x)->i=j):=fun i j hi hj he=>by
  have one:∀j,j<m->¬∀x,x<nw->T x=Ts j x:=fun j hj hx=>hk (by
   rw[(zmY hT.lt (h.set j hj).lt).2 hx];exact zrV.2 ⟨j,zrX.2 hj,rfl⟩)
  by_cases ei:i=m
  ·by_cases ej:j=m
   ·omega
   ·simp only[zst ei,zss ej] at he;exact absurd he (one j (by omega))
  ·by_cases ej:j=m
   ·simp only[zss ei,zst ej] at he;exact absurd (fun x hx=>(he x hx).symm) (one i (by omega))
   ·simp only[zss ei,zss ej] at he;exact h.nd i j (by omega) (by omega) he
 have hrm:r≠gm:=fun e=>by have h1:=h.box;rw[e,h.nm] at h1;cases h1
 obtain⟨aS,cS,rfl⟩:=zbp h.so;obtain⟨aP,cP,rfl⟩:=zbp h.po;clear h hT hL
 go_enter Tryz.func113,Tryz.ntmps113
 go_wp2
 go_region_held3 (fun w'=>w'.cell? ⟨r,4,none⟩=some (.map (some gm))) ((first|exact b4|exact(World.cell?_of_block hr6).trans ((hb5.cell (p:=⟨r,4,none⟩) hrl).trans b4)|exact(hb5.cell (p:=⟨r,4,none⟩) (by show r<w.heap.size;exact hrl)).trans b4|go_keep)) ((first|(go_at_call 129;refine(hkey _ HB0).mono ?_;rintro e w5 ⟨rfl,hb5⟩)|(go_at_call 128;refine(hnum _ (zaa HB0 HB0.size hb5)).mono ?_;rintro e w6 ⟨he,hm6,hg6⟩;rw[hadd,zcE] at hm6;simp only[hk,not_false_eq_true,decide_true,hidx] at he;subst he;have hr6:w6.heap[r]?=w5.heap[r]?:=hg6.block r (zsc hrl hb5.size) (by simpa using hrm))))
 all_goals
  have hb5':=zaa HB0 HB0.size hb5;have h5:=H.out.keep (fun k _ hl=>hb5'.block k hl);have nm5:=h5.nm;have kr6:KR gm w w6:=(KR.below hb5').trans (KR.grown (g:=gm) hg6 (fun _=>.inl rfl) (fun k e=>by simpa using e.symm) (fun cs e=>by rw[nm5] at e;cases e));have box6:=hr6.trans h5.box;obtain⟨z0,z1,z2,z3,z4,z5,z6,z7⟩:=zaM box6;have f5:=zso _ _ 5 _ _ box6;have f6:=zso _ _ 6 _ _ box6;have so6:w6.ownsRow 0 129 1 (.slice aS m cS) m (slcL gx nw m):=zd8 h5.so fun k e=>hg6.block k (by obtain⟨-,cur,e3⟩:=zaP h5.so e;exact(zrc.1 e3).1) (fun e2=>by
   have e2:k=gm:=by simpa using e2
   obtain⟨-,cur,e3⟩:=zaP h5.so e;rw[e2,h5.nm] at e3;cases e3)
  have hr6l:r<w6.heap.size:=(zrc.1 box6).1;have own6r:∀k,(Value.slice aS m cS).ownBlock=some k->∃cur,w6.heap[k]?=some (.cells cur 129 (0,0)):=fun k e=>(zaP so6 e).2
  have hne6:some r≠(Value.slice aS m cS).ownBlock:=fun e=>by
   obtain⟨cur,e3⟩:=own6r r e.symm;rw[box6] at e3;exact absurd (zad e3) (by decide)
  have HX6:Hid (KR gm w w6/\zan O w w6/\w6.heap[gm]?=some (.map (regE Value.string (zbM nw (fun i=>if i=m then T else Ts i) (m+1))) (m+1))/\w6.ownsRow 0 4 1 (.slice aP m cP) m (stL nw Ts L m)):=by
   refine⟨kr6,(zan.of_below hb5').grown hg6 (fun k e=>.inl (by cases e;exact H.out.om)),hm6,zd8 h5.po fun k e=>hg6.block k ?_ fun e2=>?_⟩
   ·obtain⟨-,cur,e3⟩:=zaP h5.po e;exact(zrc.1 e3).1
   ·have e2:k=gm:=by simpa using e2
    obtain⟨-,cur,e3⟩:=zaP h5.po e;rw[e2,nm5] at e3;cases e3
  clear kr6 h5 hm6 nm5 hb5 hb5' hg6 hr6 hkey hnum hadd hidx HB0 b0 b1 b2 b3 b4 b5 b6 b7
  go_wp2_with (refine zbJ w6 _ rfl rfl (.tmp 22) (.tmp 24) 175 rfl 0 129 i1 (.slice none 0 0) 24 Tryz.underlying175 hj hy0 hy1 hy2 rfl (.slice aS m cS) m (slcL gx nw m) (.slice (some ⟨g,0,none⟩) nw nw) rfl so6 rfl rfl (by omega) (by omega) (by omega) ?_;intro g7 cap7 w7 own7 grow7 at7;have box7:=(grow7.block r hr6l hne6).trans box6;obtain⟨-,-,-,q3,-,q5,q6,-⟩:=zaM box7;have fq5:=zso _ _ 5 _ _ box7;have fq6:=zso _ _ 6 _ _ box7)
  obtain⟨W8,hW8⟩:∃W8,w7.setCell ⟨r,5,none⟩ (.slice (some ⟨g7,0,none⟩) (m+1) cap7)=W8:=⟨_,rfl⟩;have box8:W8.heap[r]?=some (.cells #[.pointer (some ⟨bt,0,none⟩),lv,.slice (some ⟨ga,0,none⟩) nw nw,.slice (some ⟨gl,0,none⟩) nw nw,.map (some gm),.slice (some ⟨g7,0,none⟩) (m+1) cap7,.slice aP m cP,.map (some gv)] 182 (0,0)):=by rw[<-hW8];exact zsr _ _ 5 _ _ _ box7
  have hot:∀k,k≠r->W8.heap[k]?=w7.heap[k]?:=fun k hk=>by rw[<-hW8];exact zsq _ _ _ _ (by show k≠r;exact hk)
  have g8:w7.grownBy W8 (some r):=by rw[<-hW8];exact zaK _ _ _ _
  have gmr:gm≠r:=fun e=>hrm e.symm
  have nm7:W8.heap[gm]?=some (.map (regE Value.string (zbM nw (fun i=>if i=m then T else Ts i) (m+1))) (m+1)):=by
   rw[hot gm gmr,grow7.block gm (zrc.1 HX6.out.2.2.1).1 (fun e=>by obtain⟨cur,e3⟩:=own6r gm e.symm;rw[HX6.out.2.2.1] at e3;cases e3)];exact HX6.out.2.2.1
  have kr8:KR gm w W8:=by
   refine(HX6.out.1.trans (KR.grown (g:=((Value.slice aS m cS).ownBlock).getD 0) grow7 (fun e=>.inr ?_) (fun k e=>by rw[e];rfl) (fun cs e=>by rw[HX6.out.2.2.1] at e;cases e))).trans (KR.grown (g:=r) g8 (fun _=>.inr ⟨_,_,box7,by decide⟩) (fun k e=>by simpa using e.symm) (fun cs e=>?_))
   ·obtain⟨cur,e3⟩:=own6r _ e;exact⟨cur,_,e3,by decide⟩
   ·rw[<-hot gm gmr,nm7] at e;cases e
  have tc8:zan O w W8:=(HX6.out.2.1.grown grow7 (fun k e=>.inl (H.out.os k e))).grown g8 (fun k e=>.inl (by cases e;exact H.out.or));have own8:W8.ownsRow 0 129 1 (.slice (some ⟨g7,0,none⟩) (m+1) cap7) (m+1) (slcL (fun i=>if i=m then g else gx i) nw (m+1)):=by
   rw[<-ziF];exact zar own7 fun k cs e=>(hot k (fun e2=>by rw[e2,box7] at e;exact absurd (zad e) (by decide))).trans e
  have po8:W8.ownsRow 0 4 1 (.slice aP m cP) m (stL nw Ts L m):=zar HX6.out.2.2.2 fun k cs e=>by
   have e7:=(grow7.block k (zrc.1 e).1 (fun e2=>by obtain⟨cur,e3⟩:=own6r k e2.symm;rw[e] at e3;exact absurd (zad e3) (by decide))).trans e;exact(hot k (fun e2=>by rw[e2,box7] at e7;exact absurd (zad e7) (by decide))).trans e7
  have hg7o:O g7\/w.heap.size<=g7:=by
   rcases at7 with e|e
   ·exact .inl (H.out.os g7 e)
   ·exact .inr (by have:=HX6.out.2.1.size;omega)
  have pg:zal W8.drew nw g T:=⟨kr8.u _ _ HT.out.row,HT.out.lt⟩;have pl:zal W8.drew nw gl L:=⟨kr8.u _ _ HL.out.row,HL.out.lt⟩;have hmt:=zkD nw g gl nw nw T L W8.drew pg pl hnw;have r8l:r<W8.heap.size:=(zrc.1 box8).1;have hrest:∀w9:World,Below W8.drew.heap.size W8.drew w9->∃g10 c10 w10,w9.cell? ⟨r,6,none⟩=some (.slice aP m cP)/\(w9.alloc (.cells #[.bool (zb8 nw T L)] 4)).cell? ⟨r,6,none⟩=some (.slice aP m cP)/\(appP #[67,67] 67 #[.slice aP m cP,.slice (some ⟨w9.heap.size,0,none⟩) 1 1]).run Tryz.prog (w9.alloc (.cells #[.bool (zb8 nw T L)] 4))=.ok (.slice (some ⟨g10,0,none⟩) (m+1) c10) w10/\w10.cell? ⟨r,6,none⟩=some (.slice aP m cP)/\w10.frozen? ⟨r,6,none⟩=false/\
    Hid (NumP O w r nw bt ga gl lv L gm gv gx Ts m es g T (.returned (.int .i64 m)) (w10.setCell ⟨r,6,none⟩ (.slice (some ⟨g10,0,none⟩) (m+1) c10))):=fun w9 hb9=>by
   have hb9':Below W8.heap.size W8 w9:=⟨hb9.os,hb9.tape,hb9.output,hb9.size,hb9.block⟩;have box9:=(hb9'.block r r8l).trans box8;have po9:=zar (W:=w9) po8 fun k cs e=>(hb9'.block k (zrc.1 e).1).trans e
   obtain⟨g10,c10,w10,hap,own10,gr10,at10⟩:=zob m _ _ (zb8 nw T L) w9 po9 (by omega);have own9r:∀k,(Value.slice aP m cP).ownBlock=some k->∃cur,w9.heap[k]?=some (.cells cur 4 (0,0)):=fun k e=>(zaP po9 e).2
   have keep10:∀(k:Nat) (o:Obj),w9.heap[k]?=some o->(∀cs,o≠.cells cs 4 (0,0))->w10.heap[k]?=some o:=fun k o e hn=>(gr10.block k (zrc.1 e).1 (fun e2=>by
    obtain⟨cur,e3⟩:=own9r k e2.symm;rw[e] at e3;exact hn cur (Option.some.inj e3))).trans e
   have box10:=keep10 r _ box9 (fun cs e=>by injection e with _ e;exact absurd e (by decide));refine⟨g10,c10,w10,(zaM box9).2.2.2.2.2.2.1,(zaM (zah box9)).2.2.2.2.2.2.1,hap,(zaM box10).2.2.2.2.2.2.1,zso _ _ 6 _ _ box10,?_⟩;obtain⟨W11,hW11⟩:∃W11,w10.setCell ⟨r,6,none⟩ (.slice (some ⟨g10,0,none⟩) (m+1) c10)=W11:=⟨_,rfl⟩;have box11:W11.heap[r]?=some (.cells #[.pointer (some ⟨bt,0,none⟩),lv,.slice (some ⟨ga,0,none⟩) nw nw,.slice (some ⟨gl,0,none⟩) nw nw,.map (some gm),.slice (some ⟨g7,0,none⟩) (m+1) cap7,.slice (some ⟨g10,0,none⟩) (m+1) c10,.map (some gv)] 182 (0,0)):=by rw[<-hW11];exact zsr _ _ 6 _ _ _ box10
   have hot11:∀k,k≠r->W11.heap[k]?=w10.heap[k]?:=fun k hk=>by rw[<-hW11];exact zsq _ _ _ _ (by show k≠r;exact hk)
   have g11:w10.grownBy W11 (some r):=by rw[<-hW11];exact zaK _ _ _ _
   have up:∀(k:Nat) (o:Obj),W8.heap[k]?=some o->(∀cs,o≠.cells cs 4 (0,0))->k≠r->W11.heap[k]?=some o:=fun k o e hn hk=>(hot11 k hk).trans (keep10 k o ((hb9'.block k (zrc.1 e).1).trans e) hn)
   have ner:∀(k:Nat) (o:Obj),W8.heap[k]?=some o->(∀cs,o≠.cells cs 182 (0,0))->k≠r:=fun k o e hn e2=>by
    rw[e2,box8] at e;exact hn _ (Option.some.inj e).symm
   have nm11:=up gm _ nm7 (fun cs e=>by cases e) gmr;have mv8:=kr8.m _ _ _ H.out.mv (fun e=>H.out.dif e.symm);have mv11:=up gv _ mv8 (fun cs e=>by cases e) (ner gv _ mv8 (fun cs e=>by cases e));have st11:∀(x:Nat) (U:Nat->Nat),zal w nw x U->zal W11 nw x U:=fun x U hp=>by
    have e8:=kr8.u _ _ hp.row;exact⟨up x _ e8 (fun cs e=>by injection e with _ e;exact absurd e (by decide)) (ner x _ e8 (fun cs e=>by injection e with _ e;exact absurd e (by decide))),hp.lt⟩
   have so11:=zar (W:=W11) own8 fun k cs e=>up k _ e (fun cs e=>by injection e with _ e;exact absurd e (by decide)) (ner k _ e (fun cs e=>by injection e with _ e;exact absurd e (by decide)))
   have po11:W11.ownsRow 0 4 1 (.slice (some ⟨g10,0,none⟩) (m+1) c10) (m+1) (stL nw (fun i=>if i=m then T else Ts i) L (m+1)):=by
    rw[<-zpl];exact zar own10 fun k cs e=>(hot11 k (fun e2=>by rw[e2,box10] at e;exact absurd (zad e) (by decide))).trans e
   have tc11:zan O w W11:=by
    have t9:zan O w w9:=⟨hb9'.os.trans tc8.os,hb9'.tape.trans tc8.tape,hb9'.output.trans tc8.output,zsb tc8.size hb9'.size,fun k hk hn=>(hb9'.block k (zsc hk tc8.size)).trans (tc8.same k hk hn)⟩;exact(t9.grown gr10 (fun k e=>.inl (H.out.op k e))).grown g11 (fun k e=>.inl (by cases e;exact H.out.or))
   have hg10o:O g10\/w.heap.size<=g10:=by
    rcases at10 with e|e
    ·exact .inl (H.out.op g10 e)
    ·exact .inr (by have:=tc8.size;have:=hb9'.size;omega)
   rw[hW11];refine⟨m,m+1,_,_,(fun i=>if i=m then g else gx i),(fun i=>if i=m then T else Ts i),rfl,⟨box11,nm11,mv11,so11,po11,fun i hi=>?_,H.out.dif,.inl H.out.or,.inl H.out.om,.inl H.out.ov,fun k e=>?_,fun k e=>?_,fun i hi=>?_,HND.out⟩,by omega,by omega,zsa _,fun j hj=>⟨zss (by omega),zss (by omega)⟩,fun x _=>by simp,fun j h1 h2=>by omega,tc11⟩
   ·by_cases e:i=m
    ·simp only[zst e];exact st11 _ _ HT.out
    ·simp only[zss e];exact st11 _ _ (H.out.set i (by omega))
   ·have e:g7=k:=by simpa [Value.ownBlock] using e
    subst e;exact hg7o.imp id fun h=>.inr h
   ·have e:g10=k:=by simpa [Value.ownBlock] using e
    subst e;exact hg10o.imp id fun h=>.inr h
   ·by_cases e:i=m
    ·simp only[zst e];exact .inr (.inl (by first|trivial|rfl))
    ·simp only[zss e];exact .inl (H.out.ox i (by omega))
  have d3:W8.cell? ⟨r,3,none⟩=some (.slice (some ⟨gl,0,none⟩) nw nw):=(zaM box8).2.2.2.1;have d6:W8.cell? ⟨r,6,none⟩=some (.slice aP m cP):=(zaM box8).2.2.2.2.2.2.1;clear box8 hot g8 nm7 kr8 tc8 own8 po8 hg7o pg pl HX6 H HT HL own7 grow7 at7 box7 box6 own6r so6 hne6 z0 z1 z2 z3 z4 z5 z6 z7 f5 f6 q3 q5 q6 fq5 fq6;rw[hW8];clear hW8;go_wp2
  go_region_law ((first|(refine zdi (by rfl) 130 #[.tmp 33,.tmp 37] #[129,129] (by rfl) #[.slice (some ⟨g,0,none⟩) nw nw,.slice (some ⟨gl,0,none⟩) nw nw] (by simp[Act.eval]) (.bool (zb8 nw T L)) (fun w'=>Below W8.drew.heap.size W8.drew w') (zli _ _) hmt ?_;intro w9 hp9;obtain⟨g10,c10,w10,e9,e9',hap,e10,f10,H10⟩:=hrest w9 hp9;clear hp9)|(refine zf6 (by rfl) (.tmp 32) (.tmp 39) 67 (by rfl) _ _ (by rfl) (by rfl) _ _ hap ?_)))
  all_goals
   clear hrest hmt hap e9 e9' e10 f10;go_wp2;exact zsl (v:=.int .i64 m) (by simp[results,Tryz.results113,go_sem]) rfl H10.out
theorem zde(h:RdS O w r nw bt ga gl lv L gm gv sS sP gx Ts m es)(g:Nat)(T:Nat->Nat)(hT:zal w nw g T)(hL:zal w nw gl L)(hnw:nw<=1000)(hm:m<=100000000):
  Calls Tryz.prog 113 #[.pointer (some ⟨r,0,none⟩),.slice (some ⟨g,0,none⟩) nw nw] w fun e w'=>NumP O w r nw bt ga gl lv L gm gv gx Ts m es g T e w':=by
 by_cases hk:keyB nw T∈zbM nw Ts m
 ·exact zlP h g T hT hnw hk
 ·exact zlO h g T hT hL hnw hm hk
end
variable {w:World}{n nw bt ga gl m:Nat}{lv:Value}{Lk Ts:Nat -> Nat -> Nat}{A L:Nat -> Nat}{f:Nat -> Nat -> Bool}{es:List (Int×Int)}
attribute [local go_sem] Oper.semAt_some
structure StC(B:Nat)(w:World)(n nw bt ga gl:Nat)(lv sv fv:Value)(lr mk:Nat->Nat)(Lk:Nat->Nat->Nat)(A L:Nat->Nat)(f:Nat->Nat->Bool):Prop where
 box:zeo w bt nw sv fv
 btB:bt<B
 svs:0<n->∃gs cs:Nat,sv=.slice (some ⟨gs,0,none⟩) n cs/\gs<B/\∀p,p<n->w.cell? ⟨gs,p,none⟩=some (.pointer (some ⟨mk p,0,none⟩))
 mks:∀p,p<n->w.heap[mk p]?=some (.cells (zao (f p)) 197 (0,0))/\mk p<B
 lvs:0<n->∃gf cf:Nat,lv=.slice (some ⟨gf,0,none⟩) n cf/\gf<B/\∀p,p<n->w.cell? ⟨gf,p,none⟩=some (.slice (some ⟨lr p,0,none⟩) nw nw)
 lrs:∀p,p<n->zal w nw (lr p) (Lk p)/\lr p<B
 pa:zal w nw ga A/\ga<B
 pl:zal w nw gl L/\gl<B
 bru:zaY w
 pos:0<B
 le:B<=w.heap.size
 n64:n<=64*nw
 nwl:nw<=1000
 lb:∀p q,p<n->q<64*nw->zae (Lk p) q=true->q<n
 ab:∀q,q<64*nw->zae A q=true->q<n
theorem StC.keep{B:Nat}{w':World}{sv fv:Value}{lr mk:Nat->Nat}(h:StC B w n nw bt ga gl lv sv fv lr mk Lk A L f)(hk:∀k,k<B->w'.heap[k]?=w.heap[k]?)(hs:B<=w'.heap.size):StC B w' n nw bt ga gl lv sv fv lr mk Lk A L f:=by
 have hc:∀k o,k<B->w'.cell? ⟨k,o,none⟩=w.cell? ⟨k,o,none⟩:=fun k o hl=>World.cell?_of_block (hk k hl)
 have hp:∀{g:Nat} {T:Nat->Nat},zal w nw g T->g<B->zal w' nw g T:=fun h hl=>⟨(hk _ hl).trans h.row,h.lt⟩
 refine⟨(hk bt h.btB).trans h.box,h.btB,fun hn=>?_,fun p hn=>⟨(hk _ (h.mks p hn).2).trans (h.mks p hn).1,(h.mks p hn).2⟩,fun hn=>?_,fun p hn=>⟨hp (h.lrs p hn).1 (h.lrs p hn).2,(h.lrs p hn).2⟩,⟨hp h.pa.1 h.pa.2,h.pa.2⟩,⟨hp h.pl.1 h.pl.2,h.pl.2⟩,h.bru.keep (hk 0 h.pos),h.pos,hs,h.n64,h.nwl,h.lb,h.ab⟩
 ·obtain⟨gs,cs,e,hl,k⟩:=h.svs hn;exact⟨gs,cs,e,hl,fun p hp=>(hc _ _ hl).trans (k p hp)⟩
 ·obtain⟨gs,cs,e,hl,k⟩:=h.lvs hn;exact⟨gs,cs,e,hl,fun p hp=>(hc _ _ hl).trans (k p hp)⟩
def zfg(nw:Nat)(f:Nat->Nat->Bool)(Lk:Nat->Nat->Nat)(A:Nat->Nat)(T:Nat->Nat)(c:Nat)(b:Bool)(U:Nat->Nat):Prop:=
 ∀q,q<64*nw->(zae U q=true↔f q c=true/\((∃p,p<64*nw/\zae T p=true/\zae (Lk p) q=true)\/(b=true/\zae A q=true)))
def zbF(i c:Nat)(b:Bool):Int:=2*(256*(i:Int)+(c:Int))+(if b then 1 else 0)
theorem zmm{i c i' c':Nat}{b b':Bool}(h:zbF i c b=zbF i' c' b')(hc:c<256)(hc':c'<256):i=i'/\c=c'/\b=b':=by
 unfold zbF at h;cases b<;>cases b'<;>simp at h ⊢<;>omega
def MvOk(nw:Nat)(f:Nat->Nat->Bool)(Lk:Nat->Nat->Nat)(A:Nat->Nat)(Ts:Nat->Nat->Nat)(m:Nat)(es:List (Int×Int)):Prop:=
 ∀k∈za4 es,∃(i c:Nat) (b:Bool) (v:Nat),k=zbF i c b/\i<m/\c<256/\v<m/\mvG es k=v/\zfg nw f Lk A (Ts i) c b (Ts v)
theorem zgE(es:List (Int×Int))(k v:Int):za4 (es++[(k,v)])=za4 es++[k]:=by simp[za4]
theorem zik{k k' v:Int}(h:k∈za4 es):mvG (es++[(k',v)]) k=mvG es k:=by
 have hl:=(zkE es k).2 h;have e:idxR (za4 (es++[(k',v)])) k=idxR (za4 es) k:=by
  rw[zgE];unfold idxR at hl ⊢;rw[List.findIdx_append,zst (by simpa [za4] using hl)]
 unfold mvG;rw[e,zrw,zrw,zrO,zry (by rw[zrM];exact hl)]
theorem MvOk.more{Ts':Nat->Nat->Nat}{m':Nat}(h:MvOk nw f Lk A Ts m es)(hm:m<=m')(hT:∀j,j<m->Ts' j=Ts j):MvOk nw f Lk A Ts' m' es:=fun k hk=>by
 obtain⟨i,c,b,v,h1,h2,h3,h4,h5,h6⟩:=h k hk;exact⟨i,c,b,v,h1,by omega,h3,by omega,h5,by rw[hT i h2,hT v h4];exact h6⟩
theorem MvOk.put(h:MvOk nw f Lk A Ts m es){i c v:Nat}{b:Bool}(hi:i<m)(hc:c<256)(hv:v<m)(hn:zbF i c b∉za4 es)(hs:zfg nw f Lk A (Ts i) c b (Ts v)):MvOk nw f Lk A Ts m (es++[(zbF i c b,(v:Int))]):=fun k hk=>by
 rw[zgE] at hk
 by_cases hko:k∈za4 es
 ·obtain⟨i',c',b',v',h1,h2,h3,h4,h5,h6⟩:=h k hko;exact⟨i',c',b',v',h1,h2,h3,h4,by rw[zik hko];exact h5,h6⟩
 ·have e:k=zbF i c b:=by
   rcases zrR.1 hk with h1|h1
   ·exact absurd h1 hko
   ·exact zrY.1 h1
  subst e;exact⟨i,c,b,v,rfl,hi,hc,hv,zij hn,hs⟩
def ziW(n nw:Nat)(Ts:Nat->Nat->Nat)(m:Nat):Prop:=∀i q,i<m->q<64*nw->zae (Ts i) q=true->q<n
def zk2(O:Nat->Prop)(w:World)(n r nw bt ga gl:Nat)(lv:Value)(f:Nat->Nat->Bool)(Lk:Nat->Nat->Nat)(A L:Nat->Nat)(gm gv:Nat)(gx:Nat->Nat)(Ts:Nat->Nat->Nat)(m i c:Nat)(b:Bool)(e:Ending)(w':World):Prop:=
 ∃(t m':Nat) (sS sP:Value) (gx':Nat->Nat) (Ts':Nat->Nat->Nat) (es':List (Int×Int)),e=.returned (.int .i64 t)/\RdS (fun k=>O k\/(w.heap.size<=k/\k<w'.heap.size)) w' r nw bt ga gl lv L gm gv sS sP gx' Ts' m' es'/\t<m'/\m<=m'/\m'<=m+1/\(∀j,j<m->gx' j=gx j/\Ts' j=Ts j)/\zfg nw f Lk A (Ts i) c b (Ts' t)/\MvOk nw f Lk A Ts' m' es'/\ziW n nw Ts' m'/\zan O w w'
theorem Tryz.zeroIntR(w:World):(zeroValue 3).run Tryz.prog w=.ok (.int .i64 0) w:=by
 simp[zeroValue,typeInfo]
 kernel_rfl
theorem zpa{O:Nat->Prop}{r:Nat}{gm gv:Nat}{sS sP:Value}{gx:Nat->Nat}(h:RdS O w r nw bt ga gl lv L gm gv sS sP gx Ts m es)(hM:MvOk nw f Lk A Ts m es)(hS:ziW n nw Ts m)(i c:Nat)(b:Bool)(hc:c<256)(hi:i<m)(hm:m<=100000000)(hk:zbF i c b∈za4 es):
  Calls Tryz.prog 92 #[.pointer (some ⟨r,0,none⟩),.int .i64 i,.int .u8 c,.bool b] w fun e w'=>zk2 O w n r nw bt ga gl lv f Lk A L gm gv gx Ts m i c b e w':=by
 obtain⟨i',c',b',v,hcd,-,hc',hv,hg,hst⟩:=hM _ hk;obtain⟨rfl,rfl,rfl⟩:=zmm hcd hc hc';obtain⟨W1,hW1⟩:∃W1,w.alloc (.cells #[.pointer (some ⟨r,0,none⟩)] 127)=W1:=⟨_,rfl⟩;have hb1:Below w.heap.size w W1:=by rw[<-hW1];exact(Below.refl _ _).alloc (zsa _) _
 have c0:W1.cell? ⟨w.heap.size,0,none⟩=some (.pointer (some ⟨r,0,none⟩)):=by rw[<-hW1];exact(zsm _ _ _ _ _ _ (zsp _ _):_=_)
 have h1:=h.keep (w':=W1) fun k _ hl=>hb1.block k hl
 have b7:=(zaM h1.box).2.2.2.2.2.2.2;have hl:=znf W1 Tryz.underlying180 Tryz.underlying3 (Tryz.zeroIntR W1) gv es (zbF i c b) h1.mv;rw[hg] at hl;have hdk:decide (zbF i c b∈za4 es)=true:=by simp[hk]
 rw[hdk] at hl;have Hres:Hid (zk2 O w n r nw bt ga gl lv f Lk A L gm gv gx Ts m i c b (.returned (.int .i64 v)) W1):=⟨v,m,sS,sP,gx,Ts,es,rfl,h1.mono fun k hk=>.inl hk,hv,zsa _,by omega,fun _ _=>⟨rfl,rfl⟩,hst,hM,hS,zan.of_below hb1⟩;have hcv:IntKind.i64.wrap (c:Int)=(c:Int):=by rw[IntKind.wrap_i64];omega
 have hmc:zbF i c b=2*(256*(i:Int)+(c:Int))+(if b=true then 1 else 0):=rfl;rw[hmc] at hl;clear hmc h h1 hM hS hst hg hdk;cases b
 all_goals
  simp only[if_true,if_false,Bool.false_eq_true,Int.add_zero] at hl
  go_enter Tryz.func92,Tryz.ntmps92
  go_wp2;exact zsl (v:=.int .i64 v) (by simp[results,Tryz.results92,go_sem]) rfl Hres.out
end Go.Proofs.YthdljcdbfmhleaaGreatDoor
