import Derived.Test.YthdljcdbfmhleaaGreatDoorC32
namespace Go.Proofs.YthdljcdbfmhleaaGreatDoor
set_option maxHeartbeats 4000000
set_option maxRecDepth 100000
open Go.RowKit
section
variable {u:Word}{b:Pt}
attribute [local go_sem ↓] Go.wp_at_zero Go.wp_at_succ
theorem Tryz.infoPlaced:(Tryz.prog.info? 141).map (fun i=>(i.zero,i.size,i.bytes))=some (some (.agg #[.pointer none,.int .i64 0]),2,16):=by kernel_rfl
theorem zm1{i n:Nat}{L:Laid}(h:RoR u n b i L):LayC u i n (.rep b 0 (-1)) L:=by
 show if (0:Int)=0/\(-1:Int)=-1 then RoR u n b i L else ChR u n (repL b (Int.toNat 0) (-1)) i L
 rw[zst ⟨rfl,rfl⟩];exact h
theorem zk7{O1:Nat->Prop}{w:World}{nw nw':Nat}(hok:OkP b){E0 E:Nat->Prop}{fr high hi:Nat}(hhi:high<=hi)(h9:hi<=4096)(hE:∀x,E x->Sta u (unD b 0).star E0 x)(hnw:nw'=nw)(t ne gs B:Nat)(pv:Value)(ps:List Nat)(rb:RdV){n bt ga gl:Nat}{lv:Value}{f:Nat->Nat->Bool}{Lk:Nat->Nat->Nat}{A L:Nat->Nat}{O:Nat->Prop}
  (hbx:∀W,zan O1 w W->W.heap[t]?=some (.cells #[.pointer (some ⟨rb.r,0,none⟩),.slice (some ⟨gs,0,none⟩) ne ne,.int .i64 hi,pv] 131 (0,0))/\W.ownsRow B 3 1 pv ps.length (zcC ps)/\RdAt O W n nw' bt ga gl lv f Lk A L rb)
  (hix:∀j,j<ps.length->ps.getD j 0<rb.m/\zdG nw' (rb.Ts (ps.getD j 0)) (Back u (unD b 0).star E0 (hi-1-j))) (hof:∀i p,i+ps.length<hi->¬Back u (unD b 0).star E0 i p):zl6 O1 w nw u (unD b 0) E fr high (.pointer (some ⟨t,0,none⟩)):=by
 subst hnw;refine .inr ⟨t,Back u (unD b 0).star E0,rfl,fun W hT k hk=>?_,fun k h1 h2 h3 x hx hEx hL=>?_⟩
 ·obtain⟨x1,x2,x3⟩:=hbx W hT;refine(zq8 x3 t ne gs hi k B pv ps x1 x2 (fun j hj=>(hix j hj).1) (by omega) h9).mono ?_;rintro e w' ⟨⟨y1,rfl⟩|⟨y1,rfl⟩,hb⟩
  ·exact⟨_,rfl,.inl ⟨rfl,fun p hp=>hof k p (by omega) hp⟩,hb⟩
  ·obtain⟨z1,z2⟩:=hix _ y1;refine⟨_,rfl,.inr ⟨_,rb.Ts (ps.getD (hi-1-k) 0),rfl,(x3.s.set _ z1).below hb,?_⟩,hb⟩;rw[show hi-1-(hi-1-k)=k from by omega] at z2;exact z2
 ·rcases hL with ⟨e,_⟩|⟨_,q,hq,hl⟩
  ·omega
  ·obtain⟨p,p1,p2⟩:=znG (zdl b hok 0) hq hl (hE x hEx) k h1 hx;exact h3 p p1 p2
theorem ziB{w0:World}{pl:Nat}{Q:Nat->Option Pt}{Ow:Nat->Nat->Prop}(w:World)(h:PnI w0 pl Q Ow w)(lo a a':Nat)(b:Pt)(ha:Q a=some (.rep b 0 (-1)))(ha':Q a'=some b)(hp:PcAt lo w0 pl Q a' b)(t:ByteArray)(ht:t.size<=4096)(hL:Lg t.data.toList (.rep b 0 (-1)) 0 t.size):
  Calls Tryz.prog 162 #[.agg #[.pointer (some ⟨a,0,none⟩),.pointer (some ⟨a',0,none⟩)],.string t] w fun e w'=>LayA w0 pl Q Ow w lo t.data.toList t.size (.rep b 0 (-1)) e w':=by
 obtain⟨i0,hi,hz0,hz1,hz2⟩:=info_parts Tryz.infoPlaced;have hws:=h.size;have hne:a≠a':=fun e=>by rw[e,ha'] at ha;exact zqV b (Option.some.inj ha).symm
 have hul:t.data.toList.length=t.size:=by simp
 have hokb:=hidF (h.okP ha');obtain⟨W0,hW0⟩:∃W0,(w.alloc (.cells #[.pointer (some ⟨a,0,none⟩),.pointer (some ⟨a',0,none⟩)] 169)).alloc (.cells #[] 141)=W0:=⟨_,rfl⟩;have hb0:Below w.heap.size w W0:=by rw[<-hW0];exact((Below.refl _ _).alloc (zsa _) _).alloc (by simp) _
 have x0:W0.heap[w.heap.size]?=some (.cells #[.pointer (some ⟨a,0,none⟩),.pointer (some ⟨a',0,none⟩)] 169 (0,0)):=by rw[<-hW0];exact zah (zsp _ _)
 have own0:W0.ownsRow w.heap.size 141 2 (.slice (some ⟨w.heap.size+1,0,none⟩) 0 0) 0 []:=by rw[<-hW0];exact zbD _ _ 2 _ _ (by omega) (by simp)
 have hs0:w.heap.size+1<W0.heap.size:=by rw[<-hW0];simp
 have hst:=zdj a _ W0 (h.below hb0) ha;have HT0:=hidF (PnT.of_below h hb0);have hfr:∀k,w.heap.size<=k->∀c,¬Ow k c:=fun k hk c ho=>by have:=(h.ow _ c ho).2;omega
 have c0:=(zay x0).1;have HL:=hidF hL;have Hp:=hidF hp;have Hx0:=hidF x0;have Ho0:=hidF own0;clear h hL hp x0 own0 hb0
 go_enter Tryz.func162,Tryz.ntmps162
 go_wp2_with fail
 refine hst.mono ?_;rintro e w1 ⟨s,Ow1,X1,v1,ra1,rb1,O1,O2,rfl,hso,hma,hmb,hch⟩;have hon:=zhn t.size w1 ht;have Hso:=hidF hso;have Hch:=hidF hch;clear hst hso hch c0 hW0
 go_wp2_with fail
 refine hon.mono ?_;rintro e w2 ⟨U,rfl,hU,hUb,hb2⟩;have hs2:=Hso.out.below (Hso.out.inv.below hb2) hb2;have hc2:=hidF (Hch.out.below hb2);have hbk:=zc1 hs2 (by omega) (by omega) t ht (t.size/64+1) w1.heap.size (t.size/64+1) U hU (by omega) (fun hx=>by have:=(Hso.out.x0 _ hx).2;omega) ⟨t.size,by omega,(hUb _).2 rfl⟩ (fun q _ hb=>by have:=(hUb q).1 hb;omega);have HUb:=hidF hUb;have Hs2:=hidF hs2;obtain⟨ne,hne2⟩:∃ne,t.size/64+1=ne:=⟨_,rfl⟩;have hne9:ne<=100:=by omega
 have hnt:t.size<64*ne:=by omega
 rw[hne2] at hbk ⊢;clear hon hU hUb hs2 hne2
 go_wp2_with fail
 refine hbk.mono ?_;rintro e w3 ⟨Ow3,X3,high,tt,gs,b3,O3,S,pv,ps,rfl,h3,hc3,hox,hxo,T,hh⟩;have hc3':=hc3 _ _ hc2.out;have pt3:=HT0.out.trans (h3.plT hc3');have hhe:high=t.size:=(HUb.out high).1 hh.2;subst hhe;have HE0:Hid ((fun q=>q<64*ne/\zae U q=true)=fun q=>q=t.size):=funext fun q=>propext ⟨fun x=>(HUb.out q).1 x.2,fun x=>by subst x;exact⟨hnt,(HUb.out _).2 rfl⟩⟩
 have ht3:∀k,w.heap.size<=k->k<W0.heap.size->w3.heap[k]?=W0.heap[k]?/\∀c,¬Ow3 k c:=fun k h1 h2=>by
  have:=(h3.plT hc3').fre k (by omega) h2 (hfr k h1);exact this
 have hs20:W0.heap.size<=w2.heap.size:=zsb Hch.out.tc.size hb2.size;have hst2:=zdj a' b w3 h3.inv ha';have c1:=(zay ((ht3 w.heap.size (zsa _) (by omega)).1.trans Hx0.out)).2;have H3:=hidF h3;have HT:=hidF T;have Hpt3:=hidF pt3;have Ht3:=hidF ht3;have Hox:=hidF hox;have Hxo:=hidF hxo;have Hc3:=hidF hc3';clear hbk h3 T pt3 ht3 hox hxo hc3 hc3' hh
 go_wp2_with fail
 refine hst2.mono ?_;rintro e w4 ⟨s2,Ow4,X4,v4,ra4,rb4,O14,O24,rfl,so4,hma4,hmb4,ch4⟩;obtain⟨Pr,HPr⟩:∃Pr:Nat->Prop,Hid (∀k,Pr k↔X3 k\/k=tt\/k=gs\/pv.ownBlock=some k\/k=w.heap.size):=⟨_,fun _=>Iff.rfl⟩;have hpvb:∀k,pv.ownBlock=some k->w2.heap.size<=k/\k<w3.heap.size:=fun k e=>by
  obtain⟨q1,cur,q2⟩:=zaP HT.out.pa e;exact⟨q1,(zrc.1 q2).1⟩
 have htl:tt<w3.heap.size:=(zrc.1 HT.out.box).1;have hgl:gs<w3.heap.size:=HT.out.sp.glt;have ht2:=HT.out.tw;have hg2:=HT.out.gw;have hs30:=Hc3.out.tc.size;have hs34:=ch4.tc.size;have hww:w.heap.size<=w4.heap.size:=by omega
 have hPO:∀k,Pr k->w0.heap.size<=k/\k<w3.heap.size/\¬Ow3 k a':=fun k hk=>by
  rcases(HPr.out k).1 hk with e|e|e|e|e
  ·refine⟨(H3.out.x0 k e).1,(H3.out.x0 k e).2,fun ho=>?_⟩;rcases H3.out.x1 with ⟨f1,_⟩|f1
   ·exact hne (H3.out.inv.dj k a a' ((f1 k).1 e) ho)
   ·exact f1 k a' e ho
  ·subst e;exact⟨by omega,htl,(ze6 Hs2.out Hox.out Hxo.out ht2 HT.out.nt).1 a'⟩
  ·subst e;exact⟨by omega,hgl,(ze6 Hs2.out Hox.out Hxo.out hg2 HT.out.ng).1 a'⟩
  ·obtain⟨q1,q2⟩:=hpvb k e;exact⟨by omega,q2,(ze6 Hs2.out Hox.out Hxo.out q1 (HT.out.np k e)).1 a'⟩
  ·subst e;exact⟨hws,by omega,(Ht3.out w.heap.size (zsa _) (by omega)).2 a'⟩
 have hP:∀k,Pr k->k<w4.heap.size/\¬X4 k:=fun k hk=>by
  obtain⟨q1,q2,q3⟩:=hPO k hk;exact⟨by omega,fun e=>(ch4.xs k e).elim q3 fun e=>by omega⟩
 have hP34:∀k,Pr k->w4.heap[k]?=w3.heap[k]?:=fun k hk=>by
  obtain⟨q1,q2,q3⟩:=hPO k hk;have:=H3.out.inv.pl0;have:=H3.out.inv.alt ha';refine ch4.tc.same k q2 ?_;rintro (e|e|e)
  ·omega
  ·omega
  ·exact q3 e
 have hX4:∀k,w0.heap.size<=k->k<w.heap.size->(∀c,¬Ow k c)->¬X4 k:=fun k h1 h2 h3 e=>by
  rcases ch4.xs k e with f|f
  ·exact(Hpt3.out.fre k h1 h2 h3).2 a' f
  ·omega
 have hlst:w4.heap[w.heap.size+1]?=W0.heap[w.heap.size+1]?/\(∀c,¬Ow4 (w.heap.size+1) c)/\¬X4 (w.heap.size+1)/\¬Pr (w.heap.size+1):=by
  obtain⟨f1,f2⟩:=Ht3.out (w.heap.size+1) (by omega) hs0;obtain⟨g1,g2⟩:=(so4.plT ch4).fre (w.heap.size+1) (by omega) (by omega) f2;refine⟨g1.trans f1,g2,fun e=>(ch4.xs _ e).elim (f2 a') fun e=>by omega,fun e=>?_⟩;rcases(HPr.out _).1 e with e|e|e|e|e
  ·exact(Hc3.out.xs _ e).elim (hfr _ (by omega) a) fun e=>by omega
  ·omega
  ·omega
  ·have:=hpvb _ e;omega
  ·omega
 have HS0:Hid (RnS w0 pl Q a' b Ow w w4 X4 Pr s2 v4 rb4 O24 Ow4 w4 X4 ra4 O14):=⟨so4,Hpt3.out.trans (so4.plT ch4),fun _ e=>.inl e,fun _ _=>rfl,zsa _⟩;have own4:=hidF (show w4.ownsRow w.heap.size 141 2 (.slice (some ⟨w.heap.size+1,0,none⟩) 0 0) 0 [] from zaO Ho0.out fun k e=>by
  have e:w.heap.size+1=k:=by simpa [Value.ownBlock] using e
  subst e;exact hlst.1)
 have Hlst:=hidF hlst;have HP:=hidF hP;have HX4:=hidF hX4;have hnwe:v1.nw=v4.nw:=by
  rw[H3.out.st.nwe,so4.st.nwe];obtain⟨_,_,_,_,_,_,hw,_⟩:=H3.out.inv.pc a' b ha';rw[zkZ hw]
 -- what lies along,in any world in which the trail stands
 have HRd:Hid (∀W:World,(∀k,Pr k->W.heap[k]?=w4.heap[k]?)->W.heap[tt]?=some (.cells #[.pointer (some ⟨b3.r,0,none⟩),.slice (some ⟨gs,0,none⟩) ne ne,.int .i64 (t.size:Int),pv] 131 (0,0))/\zal W ne gs S/\W.ownsRow w2.heap.size 3 1 pv ps.length (zcC ps)/\RdAt O3 W v1.n v1.nw v1.bt v1.gl v1.ga (.slice v1.ba v1.n v1.bc) v1.f v1.G v1.L v1.A b3/\W.cell? ⟨w.heap.size,1,none⟩=some (.pointer (some ⟨a',0,none⟩))):=fun W hW=>by
  have hk:∀k,Pr k->W.heap[k]?=w3.heap[k]?:=fun k hk=>(hW k hk).trans (hP34 k hk)
  refine⟨(hk tt ((HPr.out _).2 (.inr (.inl rfl)))).trans HT.out.box,⟨(hk gs ((HPr.out _).2 (.inr (.inr (.inl rfl))))).trans HT.out.sp.row,HT.out.sp.lt⟩,zaO HT.out.pa fun k e=>hk k ((HPr.out _).2 (.inr (.inr (.inr (.inl e))))),H3.out.st.st.rb.keep fun k e _=>hk k ((HPr.out _).2 (.inl (H3.out.st.x2 k e))),?_⟩;exact(zay ((hk _ ((HPr.out _).2 (.inr (.inr (.inr (.inr rfl)))))).trans ((Ht3.out w.heap.size (zsa _) (by omega)).1.trans Hx0.out))).2
 have HSt:Hid (∀m,zae S m=true↔Lg t.data.toList (.rep b 0 (-1)) m t.size):=fun m=>by
  rw[zdk Hs2.out.inv ha HT.out (fun m hm=>by rw[hul,(HUb.out m).1 hm.2];omega) m];constructor
  ·rintro ⟨e,h1,h2⟩;rw[(HUb.out e).1 h1.2] at h2;exact h2
  ·intro h1;exact⟨t.size,⟨hnt,(HUb.out _).2 rfl⟩,h1⟩
 have HSs:=hidF HT.out.ss;have Hix:=hidF HT.out.ix;have Hof:=hidF HT.out.off;rw[zpv] at HSs Hix Hof;clear hst2 so4 ch4 hlst hPO hP hP34 hX4 hpvb Ht3 Hc3 Hox Hxo Hpt3 HT Hs2 Hso Hch hc2 HUb Hx0 Ho0 HT0 c1;go_wp2
 go_loopw [5,8] (fun lv av wr=>∃(k:Nat) (ys:List Pld) (vL:Value) (OwW:Nat->Nat->Prop) (XW:Nat->Prop) (raW:RdV) (OW:Nat->Prop),lv=vL/\av=.int .i64 k/\k<=t.size/\ys.length<=k/\Hid (RnS w0 pl Q a' b Ow w w4 X4 Pr s2 v4 rb4 O24 OwW wr XW raW OW)/\Hid (raW.m<=8192+4096*k)/\Hid (Lg t.data.toList (.rep b 0 (-1)) k t.size)/\Hid (∀L,RoR t.data.toList t.size b k L->RoR t.data.toList t.size b 0 (lyL ys++L))/\Hid (wr.ownsRow w.heap.size 141 2 vL ys.length (pdL ys))/\Hid (∀k,vL.ownBlock=some k->(∀c,¬OwW k c)/\¬XW k/\¬Pr k)/\Hid (∀y,y∈ys->PcAt lo w0 pl Q y.1 y.2.1))
  (fun _ av _=>t.size-(intOf av).toNat)
 case atStart=>exact⟨0,[],_,Ow4,X4,ra4,O14,rfl,rfl,zsj _,zsa _,HS0,by show _<=_;omega,HL,fun L hL=>hL,own4,fun k e=>by
   have e:w.heap.size+1=k:=by simpa [Value.ownBlock] using e
   subst e;exact⟨Hlst.out.2.1,Hlst.out.2.2.1,Hlst.out.2.2.2⟩,fun y hy=>by cases hy⟩
 case round=>
  clear HS0 own4 Hlst HL;obtain⟨k,ys,vL,OwW,XW,raW,OW,hlv,rfl,hkn,hyk,HS,Hm,HLk,HRo,HO,Hob,HPc⟩:=hrel;have hlv':=hlv.symm;subst hlv'
  by_cases hlt:k<t.size
  ·have hd:decide ((k:Int)<(t.size:Int))=true:=by simp;omega
   obtain⟨r1,r2,-,-,-⟩:=HRd.out wr HS.out.sm;have k1:=(za1 r1).2.1;have hgsX:¬XW gs:=fun e=>by
    have hpg:=(HPr.out gs).2 (.inr (.inr (.inl rfl)));have:=HP.out gs hpg;rcases HS.out.xs gs e with f|f
    ·exact this.2 f
    ·omega
   have hfu:=zeN HS.out.so (by have:=Hm.out;omega) (by omega) t ht ne gs ne k S r2 hne9 hgsX ⟨k,by omega,(HSt.out k).2 HLk.out⟩ (fun q _ hb=>by have:=((HSt.out q).1 hb).1;omega) (by omega) (by omega) (.pointer (some ⟨tt,0,none⟩)) (fun hg1 hg2 _=>zk7 hokb.out (hi:=t.size) (by have:=((HSt.out hg1).1 hg2.2).1;exact this) ht (E0:=fun q=>q<64*ne/\zae U q=true) (fun x hx=>(HSs.out x).1 hx.2) hnwe tt ne gs w2.heap.size pv ps b3 (O:=O3) (fun W hT=>by
    have hW:∀k,Pr k->W.heap[k]?=w4.heap[k]?:=fun k hk=>(hT.same k (by have:=(HP.out k hk).1;have:=HS.out.sz;omega) (fun e=>by
     rcases HS.out.xs k (HS.out.so.st.x1 k e) with f|f
     ·exact(HP.out k hk).2 f
     ·have:=(HP.out k hk).1;omega)).trans (HS.out.sm k hk)
    obtain⟨q1,q2,q3,q4,q5⟩:=HRd.out W hW;exact⟨q1,q3,q4⟩) Hix.out Hof.out)
   clear r1 r2
   go_wp2_with fail
   refine hfu.mono ?_;rintro e W2 ⟨Ow2,X2,a2,O2',end',ok,rfl,so2,-,hox2,hxx2,hm2,tc2,hR⟩;have HS2:=hidF (HS.out.step HP.out HX4.out hww so2 hox2 hxx2 tc2);obtain⟨k0,j1,j2,j3⟩:=zkU hlt HLk.out;have Hk0:Hid (∀x,(x<64*ne/\zae S x=true)↔Lg t.data.toList (.rep b 0 (-1)) x t.size):=fun x=>⟨fun z=>(HSt.out x).1 z.2,fun z=>⟨by have:=z.1;omega,(HSt.out x).2 z⟩⟩
   have hres:Lg t.data.toList b k end'/\Lg t.data.toList (.rep b 0 (-1)) end' t.size/\k<end'/\∀x,Lg t.data.toList b k x->Lg t.data.toList (.rep b 0 (-1)) x t.size->x<=end':=by
    rcases hR with ⟨-,b2,b3,b4⟩|⟨-,-,b3⟩
    ·refine⟨b3,(Hk0.out _).1 b2,?_,fun x h1 h2=>b4 x ((Hk0.out x).2 h2) h1⟩;have:=b4 k0 ((Hk0.out k0).2 j3) j2;omega
    ·exact absurd j2 (b3 k0 ((Hk0.out k0).2 j3))
   have hen:end'<=t.size:=hres.2.1.1;have hke:=hres.2.2.1;have HRo2:Hid (∀L,RoR t.data.toList t.size b end' L->RoR t.data.toList t.size b 0 (lyL (ys++[(a',b,end')])++L)):=fun L hL=>by
    have:=HRo.out ((b,end')::L) (.more k end' L hlt ⟨by omega,hen,⟨hres.1,hres.2.1⟩,fun m h1 h2 h3=>by have:=hres.2.2.2 m h3.1 h3.2;omega⟩ hL)
    simpa [lyL] using this
   have HLe:=hidF hres.2.1;have Hm2:Hid (a2.m<=8192+4096*end'):=by show _<=_;have:=Hm.out;omega
   have own2:W2.ownsRow w.heap.size 141 2 vL ys.length (pdL ys):=zaO HO.out fun k e=>by
    obtain⟨-,cur,e4⟩:=zaR HO.out e;exact tc2.same k (zrc.1 e4).1 (Hob.out k e).2.1
   have Hob2:Hid (∀k,vL.ownBlock=some k->w.heap.size<=k/\(∀c,¬Ow2 k c)/\¬X2 k/\¬Pr k/\∃cur,W2.heap[k]?=some (.cells cur 141 (0,0))):=fun k e=>by
    obtain⟨e3,cur,e4⟩:=zaR HO.out e;have hkl:=(zrc.1 e4).1;obtain⟨f1,f2,f3⟩:=Hob.out k e;have hx2:¬X2 k:=fun z=>(hxx2 k z).elim f2 fun z=>by omega
    refine⟨e3,fun c hc=>(hox2 k c hc).elim (f1 c) hx2,hx2,f3,cur,(tc2.same k hkl f2).trans e4⟩
   obtain⟨-,-,-,-,c1⟩:=HRd.out W2 HS2.out.sm;have hys:ys.length<=2000000:=by omega
   have hbs:w.heap.size<=W2.heap.size:=HS2.out.pt.size;obtain⟨va,vn,vc,hvf⟩:∃(va:Option Addr) (vn vc:Nat),vL=.slice va vn vc:=by
    rcases own2.2 with ⟨e,_⟩|⟨g,c,_,e,_⟩
    ·exact⟨_,_,_,e⟩
    ·exact⟨_,_,_,e⟩
   subst hvf;clear hfu HS Hm HLk HRo HO Hob hR so2 hox2 hxx2 tc2 hm2 hres j2 j3 k1 hgsX
   go_wp2_with (at_builtin;refine zaS rfl (.tmp 37) (.tmp 42) 138 rfl W2 #[.pointer (some ⟨a',0,none⟩),.int .i64 (end':Int)] 141 rfl W2.heap.size rfl w.heap.size i0 _ 2 16 Tryz.underlying138 hi hz0 hz1 hz2 rfl (by omega) (.slice va vn vc) ys.length (pdL ys) rfl own2 rfl rfl (by intro u hu;simp at hu;rcases hu with rfl|rfl<;>rfl) hys (by omega) hbs ?_;intro g7 cap7 W7 own7 grow7 at7)
   have HS7:=hidF (HS2.out.row (fun k hk=>(HP.out k hk).1) grow7 hws Hob2.out)
   go_roundw
   case rel=>exact⟨end',ys++[(a',b,end')],_,Ow2,X2,a2,O2',rfl,rfl,hen,by simp;omega,HS7,Hm2,HLe,HRo2,by show World.ownsRow _ _ _ _ _ _ _;rw[zrK,zeF];exact own7,fun k e=>by
     have e:g7=k:=by simpa [Value.ownBlock] using e
     subst e;rcases at7 with f|f
     ·obtain⟨z1,z2,z3,z4,_⟩:=Hob2.out g7 f;exact⟨z2,z3,z4⟩
     ·refine⟨fun c hc=>by have:=(HS2.out.so.inv.ow _ c hc).2;omega,fun hc=>by have:=(HS2.out.so.x0 _ hc).2;omega,fun hc=>?_⟩;have:=(HP.out _ hc).1;have:=HS2.out.sz;omega,fun y hy=>by
     rcases zrR.1 hy with hy|hy
     ·exact HPc.out y hy
     ·rw[zrY.1 hy];exact Hp.out⟩
   case measure=>simp[intOf];omega
  ·obtain rfl:k=t.size:=by omega
   have hd:decide ((t.size:Int)<(t.size:Int))=false:=by simp
   have HF:Hid (LayA w0 pl Q Ow w lo t.data.toList t.size (.rep b 0 (-1)) (.returned vL) wr):=by
    refine⟨OwW,ys,vL,rfl,HS.out.pt,HO.out,fun k e=>(Hob.out k e).1,?_,HPc.out⟩;have:=HRo.out [] .done;rw[zrm] at this;exact zm1 this
   clear HS HRo HO Hob HPc Hm HLk;go_wp2;go_ret;exact HF.out
end
structure zdY(H:Nat)(A B:World):Prop where
 os:B.os=A.os
 tape:B.tape=A.tape
 output:B.output=A.output
 size:A.heap.size<=B.heap.size
 same:∀k,k≠H->k≠H+1->k<A.heap.size->B.heap[k]?=A.heap[k]?
 nc:(∀o,B.heap[H]?=some o->o.isCells=false)/\∀o,B.heap[H+1]?=some o->o.isCells=false
theorem zdY.put{H:Nat}{A:World}{x:Option (List Deferred)}{o:Obj}(hl:A.heap[H+1]?=some o)(hk:A.heap[H]?=some (.deferred x))(r:Loop):zdY H A (A.putObj (H+1) (.loop r)):=
 ⟨rfl,rfl,rfl,by simp,fun k _ h2 _=>World.putObj_heap_other h2,fun o ho=>by
  rw[World.putObj_heap_other (by omega),hk] at ho;cases ho;rfl,fun o ho=>by
  rw[World.putObj_heap_same (zrc.1 hl).1] at ho;cases ho;rfl⟩
def ziU(H:Nat)(A B:World):Prop:=B.heap[H]?=A.heap[H]?/\B.heap[H+1]?=A.heap[H+1]?
def zoY{α:Type}(H:Nat)(T:List Nat)(I:List α->World->Prop)(Ix:Code->List α->World->Prop)(s:List α)(W:World):Exit->Act->World->Prop
 |.normal,_,W'=>ziU H W W'/\(∀k∈T,W'.heap[k]?=W.heap[k]?)/\I s W'
 |.ret,_,W'=>ziU H W W'/\Ix .ret s W'
 |.exit id,_,W'=>ziU H W W'/\Ix (.exit id) s W'
 |.goto t,_,W'=>ziU H W W'/\Ix (.goto t) s W'
 |.panic _,_,_=>False
 |.outgrown,_,_=>False
def SeqS{α:Type}(n:Nat)(P:Program)(g:Nat)(fb lb:Array Value)(encs:α->Array Value)(T:List Nat)(S Sp:List α->Prop)(Nx:List α->α->Prop)(w:World):Prop:=
 ∀(l:Nat) (J Jx:List α->World->Prop) (W:World),(∀k∈T,W.heap[k]?=w.heap[k]?)->
  (∀pre x W1,J pre W1->Nx pre x->YieldAt Fence.wide (n-1) P l (encs x) W1 fun e W'=>
   (e=.returned (.bool true)/\J (pre++[x]) W'/\∀k∈T,W'.heap[k]?=W1.heap[k]?)\/(e=.returned (.bool false)/\Jx (pre++[x]) W'))->
  J [] W->
  CallsIn Fence.wide n P g (fb++#[.func (.yield l) #[] #[]]++lb) W fun e W'=>(∃v,e=.returned v)/\((∃xs,S xs/\J xs W')\/(∃pre,Sp pre/\Jx pre W'))
theorem zke{α:Type}{n:Nat}{P:Program}{g:Operand}{ps:Array Tmp}{assign body:Code}{Q:Exit->Act->World->Prop}{a:Act}{w:World}(h1:1<=n)
  {gf:Nat} {fb lb:Array Value} (hg:a.eval g=.func (.func gf) fb lb) (eg:∀args w,(callFunc gf args).run P w=.ok (.enter gf args) w)
  {encs:α->Array Value} {T:List Nat} {S Sp:List α->Prop} {Nx:List α->α->Prop} (hT:∀k∈T,k<w.heap.size) (hseq:SeqS (n-1) P gf fb lb encs T S Sp Nx w) (hps:∀x,(encs x).size=ps.size)
  (I:List α->World->Prop) (Ix:Code->List α->World->Prop) (hI:∀s A B,I s A->zdY w.heap.size A B->I s B) (hIx:∀c s A B,Ix c s A->zdY w.heap.size A B->Ix c s B) (h0:I [] w) (V:α->World->World) (hV:∀x W,Below W.heap.size W (V x W)) (a₁:α->World->Act)
  (hassign:∀(l:Nat) (x:α) (W:World) (K:Act->World->Prop),K (a₁ x W) (V x W)->
   assign.wpIn (Fence.wide.inRound l) (n-1-1) P (Exit.then K (fun _ _ _=>False)) {tmps:=(ps.zip (encs x)).foldl (fun t (p,v)=>t.setIfInBounds p v) a.tmps,defers:=[]} W)
  (hbody:∀(l:Nat) (pre:List α) (x:α) (W0 W:World),w.heap.size+1<W0.heap.size->I pre W0->zdY w.heap.size (V x W0) W->Nx pre x->body.wpIn (Fence.wide.inRound l) (n-1-1) P (zoY w.heap.size T I Ix (pre++[x]) W) (a₁ x W0) W)
  (hdone:∀(D:Nat) (xs:List α) (W:World),w.heap.size=D->S xs->I xs W->W.heap[D]?=some (.deferred (some []))->Q .normal {a with defers:={target:=.collected D,args:=#[]} :: a.defers} W)
  (hstop:∀(D:Nat) (c:Code) (pre:List α) (W:World),w.heap.size=D->Sp pre->Ix c pre W->W.heap[D]?=some (.deferred (some []))->c.wpIn Fence.wide n P Q {a with defers:={target:=.collected D,args:=#[]} :: a.defers} W):
  (Code.rangeFunc g ps assign body).wpIn Fence.wide n P Q a w:=by
 refine wpIn_rangeFunc fun fn hfn=>?_
 let rc:LoopState->Option Code->Loop:=fun st pe=>{state:=st,pending:=pe,fn,tmps:=a.tmps,params:=ps,assign,body,defers:=w.heap.size}
 obtain⟨W1,hW1⟩:∃W1,(w.alloc (.deferred (some []))).alloc (.loop (rc .ready none))=W1:=⟨_,rfl⟩;have t1:zdY w.heap.size w W1:=by
  rw[<-hW1];refine⟨rfl,rfl,rfl,by simp;omega,fun k _ _ hlt=>?_,fun o ho=>?_,fun o ho=>?_⟩
  ·rw[Below.heap_alloc _ _ k (by simp;omega),Below.heap_alloc _ _ k hlt]
  ·rw[Below.heap_alloc _ _ _ (by simp),World.alloc_heap_new] at ho;cases ho;rfl
  ·have:=World.alloc_heap_new (w.alloc (.deferred (some []))) (.loop (rc .ready none));rw[World.size_alloc] at this;rw[this] at ho;cases ho;rfl
 have rec1:W1.heap[w.heap.size+1]?=some (.loop (rc .ready none)):=by
  rw[<-hW1];have:=World.alloc_heap_new (w.alloc (.deferred (some []))) (.loop (rc .ready none));rwa[World.size_alloc] at this
 have def1:W1.heap[w.heap.size]?=some (.deferred (some [])):=by rw[<-hW1,Below.heap_alloc _ _ _ (by simp),World.alloc_heap_new]
 refine⟨w.heap.size+1,[{target:=.collected w.heap.size,args:=#[]}],W1,{target:=.fn (.func gf) lb,args:=fb++#[.func (.yield (w.heap.size+1)) #[] #[]]},W1,gf,
  fb++#[.func (.yield (w.heap.size+1)) #[] #[]]++lb,W1,?_,?_,fun _ _=>trivial,?_,fun _=>h1,?_⟩
 ·rw[<-hW1];exact run_enterLoop_outer _ _ _ _ _
 ·simp only[resolve,hg];simp[go_sem]
 ·simp[invoke,go_sem,eg]
 refine(hseq (w.heap.size+1)
  (fun pre W=>I pre W/\W.heap[w.heap.size+1]?=some (.loop (rc .ready none))/\W.heap[w.heap.size]?=some (.deferred (some [])))
  (fun pre W=>∃c,Ix c pre W/\W.heap[w.heap.size+1]?=some (.loop (rc .done (some c)))/\W.heap[w.heap.size]?=some (.deferred (some [])))
  W1 ?_ ?_ ⟨hI _ _ _ h0 t1,rec1,def1⟩).mono ?_
 ·intro k hk;have:=hT k hk;rw[<-hW1,Below.heap_alloc _ _ k (by simp;omega),Below.heap_alloc _ _ k this]
 ·rintro pre x Wb ⟨hi,hlb,hkb⟩ hlen;have hltb:=(zrc.1 hlb).1;obtain⟨W,hW⟩:∃W,V x Wb=W:=⟨_,rfl⟩;have hbW:Below Wb.heap.size Wb W:=hW ▸ hV x Wb;have hl:W.heap[w.heap.size+1]?=some (.loop (rc .ready none)):=(hbW.block _ hltb).trans hlb;have hk:W.heap[w.heap.size]?=some (.deferred (some [])):=(hbW.block _ (by omega)).trans hkb;have hlt:=(zrc.1 hl).1;refine⟨fn,_,assign,body,run_yield (P:=P) (args:=encs x) hlb (hps x),roundIn_of_wpIn hfn (hassign _ x Wb _ ⟨_,by rw[hW];exact run_beginRound hl rfl,?_⟩)⟩;have busy:(W.putObj (w.heap.size+1) (.loop (rc .busy none))).heap[w.heap.size+1]?=some (.loop (rc .busy none)):=World.putObj_heap_same hlt;have held:(W.putObj (w.heap.size+1) (.loop (rc .busy none))).heap[w.heap.size]?=some (.deferred (some [])):=(World.putObj_heap_other (by omega)).trans hk;refine wpIn_mono (hbody _ pre x Wb _ hltb hi (by rw[hW];exact zdY.put hl hk _) hlen) ?_;have fin:∀(jump:Option Code) (W3:World),ziU w.heap.size (W.putObj (w.heap.size+1) (.loop (rc .busy none))) W3->
    (Instr.endRound (w.heap.size+1) jump).run P W3=.ok (.bool jump.isNone) (W3.putObj (w.heap.size+1) (.loop (rc (if jump.isNone then .ready else .done) jump)))/\
    W3.heap[w.heap.size+1]?=some (.loop (rc .busy none))/\
    (W3.putObj (w.heap.size+1) (.loop (rc (if jump.isNone then .ready else .done) jump))).heap[w.heap.size+1]?=some (.loop (rc (if jump.isNone then .ready else .done) jump))/\
    (W3.putObj (w.heap.size+1) (.loop (rc (if jump.isNone then .ready else .done) jump))).heap[w.heap.size]?=some (.deferred (some [])):=fun jump W3 k3=>by
   have l3:=k3.2.trans busy;exact⟨run_endRound (P:=P) jump l3,l3,World.putObj_heap_same (zrc.1 l3).1,(World.putObj_heap_other (by omega)).trans (k3.1.trans held)⟩
  have bk:∀(A:World) (o:Obj) (k:Nat),k∈T->(A.putObj (w.heap.size+1) o).heap[k]?=A.heap[k]?:=fun A o k hk=>World.putObj_heap_other (by have:=hT k hk;omega)
  have bT:∀k,k∈T->W.heap[k]?=Wb.heap[k]?:=fun k hk=>hbW.block k (by have:=hT k hk;omega)
  rintro e a3 W3 hp;cases e with
  |normal=>
   obtain⟨k3,b3,i3⟩:=hp;obtain⟨r,l3,l4,d4⟩:=fin none W3 k3;exact⟨_,_,r,.inl ⟨rfl,⟨hI _ _ _ i3 (zdY.put l3 (k3.1.trans held) _),l4,d4⟩,fun k hk=>by rw[bk _ _ k hk,b3 k hk,bk _ _ k hk,bT k hk]⟩⟩
  |ret=>
   obtain⟨k3,i3⟩:=hp;obtain⟨r,l3,l4,d4⟩:=fin (some .ret) W3 k3;exact⟨_,_,r,.inr ⟨rfl,.ret,hIx _ _ _ _ i3 (zdY.put l3 (k3.1.trans held) _),l4,d4⟩⟩
  |exit id=>
   obtain⟨k3,i3⟩:=hp;obtain⟨r,l3,l4,d4⟩:=fin (some (.exit id)) W3 k3;exact⟨_,_,r,.inr ⟨rfl,.exit id,hIx _ _ _ _ i3 (zdY.put l3 (k3.1.trans held) _),l4,d4⟩⟩
  |goto t=>
   obtain⟨k3,i3⟩:=hp;obtain⟨r,l3,l4,d4⟩:=fin (some (.goto t)) W3 k3;exact⟨_,_,r,.inr ⟨rfl,.goto t,hIx _ _ _ _ i3 (zdY.put l3 (k3.1.trans held) _),l4,d4⟩⟩
  |panic ch=>exact hp.elim
  |outgrown=>exact hp.elim
 ·rintro e W2 ⟨⟨v,rfl⟩,(⟨xs,hS,hi,hl,hk⟩|⟨pre,hSp,c,hi,hl,hk⟩)⟩
  ·exact⟨none,_,run_endLoop (P:=P) hl (by simp[rc]),hdone _ xs _ rfl hS (hI _ _ _ hi (zdY.put hl hk _)) ((World.putObj_heap_other (by omega)).trans hk)⟩
  ·exact⟨some c,_,run_endLoop (P:=P) hl (by simp[rc]),hstop _ c pre _ rfl hSp (hIx _ _ _ _ hi (zdY.put hl hk _)) ((World.putObj_heap_other (by omega)).trans hk)⟩
attribute [local go_sem] Oper.semAt_some
def encL{n:Nat}(pa:Nat->Nat)(po:Nat->Bool)(k:BelN n):Array Value:=#[.int .i64 (k.1:Int),.agg #[.pointer (some ⟨pa k.1,0,none⟩),.bool (po k.1)]]
theorem zoc(m l n g cap bx:Nat)(pa:Nat->Nat)(po:Nat->Bool)(hm:1<=m)(hn:n<=100000)(J Jx:List (BelN n)->World->Prop)(W:World)
  (hY:∀pre x W1,J pre W1->x.1+pre.length+1=n->YieldAt Fence.wide (m-1) Tryz.prog l (encL pa po x) W1 fun e W'=>
   (e=.returned (.bool true)/\J (pre++[x]) W'/\∀k∈[bx,g],W'.heap[k]?=W1.heap[k]?)\/(e=.returned (.bool false)/\Jx (pre++[x]) W'))
  (hb:W.heap[bx]?=some (.cells #[.slice (some ⟨g,0,none⟩) n cap] 156 (0,0))) (hT:∀i,i<n->W.cell? ⟨g,i*2,none⟩=some (.pointer (some ⟨pa i,0,none⟩))/\W.cell? ⟨g,i*2+1,none⟩=some (.bool (po i))) (h0:J [] W):
  CallsIn Fence.wide m Tryz.prog 160 #[.func (.yield l) #[] #[],.pointer (some ⟨bx,0,none⟩)] W fun e W'=>(∃v,e=.returned v)/\
   ((∃ys,ys.length=n/\J ys W')\/(∃pre,(0<pre.length/\pre.length<=n)/\Jx pre W')):=by
 refine callsIn_of_wp Tryz.func160 rfl trivial ?_ rfl;simp only[Tryz.ntmps160,zr4,zrL,zrN,Nat.reduceAdd,Nat.reduceSub,zrd,zre,zr1,zrn,zrZ,zro];have c0:W.cell? ⟨bx,0,none⟩=some (.slice (some ⟨g,0,none⟩) n cap):=(zsm _ _ _ _ _ _ hb:W.cell? ⟨bx,0,none⟩=_);have HT:=hidF hT;clear hT
 gi_wp2
 clear c0
 gi_loopw [3] (fun i wr=>∃(j:Nat) (pre:List (BelN n)),Hid (pre.length=j)/\j<=n/\i=.int .i64 ((n:Int)-1-j)/\J pre wr/\wr.heap[bx]?=some (.cells #[.slice (some ⟨g,0,none⟩) n cap] 156 (0,0))/\Hid (∀i,i<n->wr.cell? ⟨g,i*2,none⟩=some (.pointer (some ⟨pa i,0,none⟩))/\wr.cell? ⟨g,i*2+1,none⟩=some (.bool (po i))))
  (fun i _=>(intOf i+1).toNat)
 case atStart=>exact⟨0,[],rfl,zsj _,by simp,h0,hb,HT⟩
 case round=>
  clear hb HT h0;obtain⟨j,pre,Hp,hj,rfl,hJ,hb,HT⟩:=hrel
  by_cases hlt:j<n
  case neg=>
   obtain rfl:j=n:=by omega
   have hd:¬(0:Int)<=(j:Int)-1-(j:Int):=by omega
   have hd2:decide ((0:Int)<=(j:Int)-1-(j:Int))=false:=by simp;omega
   gi_wp2
   go_end0
   exact⟨⟨_,rfl⟩,.inl ⟨pre,Hp.out,hJ⟩⟩
  have c0:wr.cell? ⟨bx,0,none⟩=some (.slice (some ⟨g,0,none⟩) n cap):=(zsm _ _ _ _ _ _ hb:wr.cell? ⟨bx,0,none⟩=_);obtain⟨k,hk⟩:∃k:Nat,(n:Int)-1-j=k:=⟨n-1-j,by omega⟩;have hkn:k<n:=by omega
  obtain⟨c1,c2⟩:=HT.out k hkn;have hi0:(0:Int)<=(k:Int):=by omega
  have hi1:(k:Int)<(n:Int):=by omega
  obtain⟨fn,tmps,assign,body,hy,hR⟩:=hY pre ⟨k,hkn⟩ wr hJ (by have:=Hp.out;show k+pre.length+1=n;omega);have Hk:Hid ((n:Int)-1-j=k):=hk;rw[hk];unfold encL at hy;clear hY hk
  gi_wp2
  refine hR.mono ?_;rintro e W3 (⟨rfl,hJ3,hk3⟩|⟨rfl,hJx3⟩)
  ·have HT3:Hid (∀i,i<n->W3.cell? ⟨g,i*2,none⟩=some (.pointer (some ⟨pa i,0,none⟩))/\W3.cell? ⟨g,i*2+1,none⟩=some (.bool (po i))):=fun i hi=>⟨(World.cell?_of_block (hk3 g (by simp))).trans (HT.out i hi).1,(World.cell?_of_block (hk3 g (by simp))).trans (HT.out i hi).2⟩
   have hb3:=(hk3 bx (by simp)).trans hb
   gi_wp2
   go_roundw
   case rel=>exact⟨j+1,pre++[⟨k,hkn⟩],by show _=_;rw[zrK,Hp.out];rfl,by omega,by congr 1;have:=Hk.out;omega,hJ3,hb3,HT3⟩
   case measure=>first|(simp[intOf];done)|(simp[intOf];omega)
  ·gi_wp2
   refine zsl (results_none rfl _ _ _) rfl ?_;exact⟨⟨_,rfl⟩,.inr ⟨_,⟨by simp,by rw[zrK,Hp.out];simp;omega⟩,hJx3⟩⟩
theorem zk9(m n g cap bx:Nat)(pa:Nat->Nat)(po:Nat->Bool)(hm:1<=m)(hn:n<=100000)(w:World)(hb:w.heap[bx]?=some (.cells #[.slice (some ⟨g,0,none⟩) n cap] 156 (0,0)))(hT:∀i,i<n->w.cell? ⟨g,i*2,none⟩=some (.pointer (some ⟨pa i,0,none⟩))/\w.cell? ⟨g,i*2+1,none⟩=some (.bool (po i))):
  SeqS m Tryz.prog 160 #[] #[.pointer (some ⟨bx,0,none⟩)] (encL (n:=n) pa po) [bx,g] (fun ys:List (BelN n)=>ys.length=n) (fun pre:List (BelN n)=>0<pre.length/\pre.length<=n) (fun pre x=>x.1+pre.length+1=n) w:=
 fun l J Jx W hW hY h0=>zoc m l n g cap bx pa po hm hn J Jx W hY ((hW bx (by simp)).trans hb) (fun i hi=>⟨(World.cell?_of_block (hW g (by simp))).trans (hT i hi).1,(World.cell?_of_block (hW g (by simp))).trans (hT i hi).2⟩) h0
theorem zmd(g n cap:Nat)(w:World):
  Calls Tryz.prog 158 #[.slice (some ⟨g,0,none⟩) n cap] w fun e w'=>e=.returned (.func (.func 160) #[] #[.pointer (some ⟨w.heap.size,0,none⟩)])/\w'=w.alloc (.cells #[.slice (some ⟨g,0,none⟩) n cap] 156):=by
 go_enter Tryz.func158,Tryz.ntmps158
 go_wp2;go_ret;exact⟨rfl,rfl⟩
end Go.Proofs.YthdljcdbfmhleaaGreatDoor
