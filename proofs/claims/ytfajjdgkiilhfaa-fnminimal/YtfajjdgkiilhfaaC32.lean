import Derived.Test.YtfajjdgkiilhfaaC31
namespace Go.Proofs.Ytfajjdgkiilhfaa
open Proofs.Try
open Option renaming none->za,some->zh
open Value renaming slice->zi,int->zn,agg->zy
open RowKit renaming Below->zp
open Go renaming World->zw,Value->zB
open Obj renaming cells->zx
set_option maxHeartbeats 8000000
set_option maxRecDepth 100000
open Go.RowKit
attribute [local go_sem ↓] wp_at_zero wp_at_succ
variable {Wb W:zw}{gt db N:Nat}{X:Xs}{width:Int}{v:Nat -> zB}{ls:Nat -> List Int}{sv:zB}{gs:Nat -> Nat}{L:List St}
noncomputable def mV (bs:List dm) (nx:List Nat) (t e:Nat):Nat->List Int:=yU (qX bs 256) (aO nx) (rL bs false t) (rL bs true e) (aO (iI bs))
theorem TQ(bs:List dm):jE bs 256 0=qX bs 256/\jE bs 256 1=aO (iI bs):=⟨rfl,rfl⟩
theorem Try.zA9:(prog.info? 37).map (λi=>(i.zero,i.size,i.bytes))=zh (zh (zi za 0 0),1,24):=by kernel_rfl
theorem lD.form(h:lD Wb gt db W X N width v ls sv gs L):∃(ga:Option Addr) (ca:Nat),sv=.slice ga L.length ca:=by
 rcases h.out.2 with ⟨e,h0⟩|⟨g,cap,_,e,_⟩
 ·exact⟨za,0,by rw[h0];exact e⟩
 ·exact⟨_,_,e⟩
structure zC(X:zw) where
 W:zw
 h:zp X.heap.size X W
instance zBI (X:zw):Nonempty (zC X):=⟨⟨X,Below.refl _ _⟩⟩
theorem zmq(xs:Array zB)(w:zw):(callFunc 41 xs).run prog w=.ok (.enter 41 xs) w:=by kernel_rfl
theorem zoh{w:zw}{g o:Nat}{v:zB}(h:w.cell? ⟨g,o,za⟩=zh v):g<w.heap.size:=by
 rcases jP g w.heap.size with q|q
 ·exact q
 ·have:w.heap[g]?=za:=zr q;simp[World.cell?,this]at h
theorem lD.Nz(h:lD Wb gt db W X N width v ls sv gs L):zp Wb.heap.size Wb W:=by rw[h.jc];exact h.bg
theorem zej(va:zB)(rs:List dC)(most:Nat)(w:zw)(hs:qJ 0 w va rs)(lQ:Kp rs)(h1:1<=most)(h2:most<=4000)(hl:qf rs=true)(R:Ending->zw->Prop)
  (hR:(∃k0,Km (fw 0 rs) most k0)->∀W,zp w.heap.size w W->R (.returned (.tuple #[.agg bm,zn .i64 3])) W)
  (hE:∀K,zA (fw 0 rs) most K->∀e W,vB w 0 (km (ie (fw 0 rs) K)) (dA (ie (fw 0 rs) K)) e W->R e W):
  Calls prog 30 #[va,zn .i64 most] w R:=by
 have hb:aT most 1 4000=true:=vz.2 ⟨by omega,by omega⟩;obtain⟨ib,hib,aG,aP,aL⟩:=info_parts Try.zyc;have du:prog.follows .mixedOrders=true:=by kernel_rfl
 obtain⟨W0,ay⟩:∃W0,w.alloc (zx bm 25)=W0:=⟨_,rfl⟩;have b0:zp w.heap.size w W0:=by rw[<-ay];exact aC
 have x0:W0.heap[w.heap.size]?=zh (zx bm 25 (0,0)):=by rw[<-ay];exact aU _ _
 have cb:=lp most 1 4000 W0;rw[hb]at cb;have cl:=zha va rs W0 (hs.below b0) lQ.sm;rw[hl]at cl;have cw:=λW (h:zp W0.heap.size W0 W)=>znI va rs W (hs.below (bi b0 b0.size h)) lQ
 unfold bm at ay;have bQ:=ag ay;have HB:=ag b0;have HX:=ag x0;have HCW:=ag cw;clear hb x0 b0 ay hs lQ hl cw
 go_enter func30,ntmps30
 go_upto_region 1 with fail
 rw[bQ.out];clear bQ
 go_wp2_with fail
 refine cb.mono ?_;rintro e W1 ⟨rfl,bk⟩;subst W1;clear cb
 go_wp2_with fail
 refine cl.mono ?_;rintro e Wc ⟨rfl,b2⟩;have cw:=HCW.out Wc b2;have xc:=(b2.block _ (az HX.out)).trans HX.out;have tS:=bi HB.out HB.out.size b2;have HXC:=ag xc;have JX:=ag tS;clear cl HCW xc tS b2
 go_wp2_with fail
 refine cw.mono ?_;rintro e Wd ⟨nv,bv,Ns,X,rfl,hsp,qx,BR⟩;obtain⟨no,nc,rfl,-⟩:=hsp.nx.at_;obtain⟨bo,bc,rfl,-⟩:=hsp.bx.at_;obtain⟨We,uY⟩:∃We,Wd.alloc (zx #[.slice no Ns.length nc,.slice bo X.length bc] 80)=We:=⟨_,rfl⟩;have be:zp Wd.heap.size Wd We:=by rw[<-uY];exact aC
 have xe:We.heap[Wd.heap.size]?=zh (zx #[.slice no Ns.length nc,.slice bo X.length bc] 80 (0,0)):=by rw[<-uY];exact aU _ _
 have Zr:=hsp.below be;have hze:We.heap[w.heap.size]?=zh (zx bm 25 (0,0)):=by
  have e1:=(BR.block _ (az HXC.out)).trans HXC.out;exact(be.block _ (az e1)).trans e1
 have pi:zp w.heap.size w We:=bi (bi JX.out JX.out.size BR) (bi JX.out JX.out.size BR).size be;have cy:=znH Wc We (.slice no Ns.length nc) (.slice bo X.length bc) Ns X Zr;obtain⟨p0,p1⟩:=dM xe;have HWE:=ag uY;have qU:=ag Zr;have G5:=ag xe;have Vz:=ag hze;have rW:=ag pi;have UT:=ag qx;have jF:=hsp.nx.len;clear cw hsp BR be xe Zr hze pi uY qx
 go_upto_region 6 with fail
 rw[HWE.out];clear HWE
 go_wp2_with fail
 refine cy.mono ?_;rintro e Wf ⟨v2,rfl,IB,Iw⟩;obtain⟨⟨a0,k0⟩,e0⟩:=cJ (IB.own 0 (by omega));obtain⟨⟨a1,k1⟩,e1⟩:=cJ (IB.own 1 (by omega));rw[(TQ (aK X)).1,Me]at e0;rw[(TQ (aK X)).2,cW]at e1;obtain⟨H,hH⟩:∃H,(iI (aK X)).length=H:=⟨_,rfl⟩;have hHl:H<=256:=by rw[<-hH];exact zlD _
 rw[hH]at e1;obtain⟨Wg,N7⟩:∃Wg,Wf.alloc (zx #[.slice a0 256 k0,zn .i64 H,zi za 0 0,zi za 0 0,zi za 0 0] 25)=Wg:=⟨_,rfl⟩;have Fm:zp Wf.heap.size Wf Wg:=by rw[<-N7];exact aC
 have ff:#[Value.slice a0 256 k0,zn .i64 H,zi za 0 0,zi za 0 0,zi za 0 0]=fH H (vC (v2 0) (v2 1)):=by rw[e0];rfl
 have hst:∀W1,Wg.grownBy W1 za->gZ W1 (Wf.heap.size+1) Ns.length (λ_=>false)->lD We We.heap.size Wf.heap.size (W1.alloc (zx #[zi (zh ⟨Wf.heap.size+1,0,za⟩) Ns.length Ns.length] 37)) X Ns.length H (vC (v2 0) (v2 1)) (mV (aK X) [] 0 0) (zi (zh ⟨W1.heap.size,0,za⟩) 1 1) (λ_=>Wf.heap.size+1) [fM]:=λW1 hg hm=>by
  have:=lD.start (We:=We) (Wf:=Wf) (W1:=W1) (gt:=We.heap.size) (X:=X) (N:=Ns.length) (v:=v2) (l:=jE (aK X) 256) (width:=H) rfl IB Iw Iw.size (by rw[<-ff,N7];exact hg) hm;rw[(TQ (aK X)).1,(TQ (aK X)).2]at this;exact this
 have I2:Wg.heap.size=Wf.heap.size+1:=by rw[<-N7];simp
 have xg:Wg.heap[Wd.heap.size]?=zh (zx #[.slice no Ns.length nc,.slice bo X.length bc] 80 (0,0)):=(Fm.block _ (by have:=az G5.out;have:=Iw.size;omega)).trans ((Iw.block _ (az G5.out)).trans G5.out);obtain⟨p0,p1⟩:=dM xg;have HWG:=ag N7;have gY:=ag hst;have HSG:=ag I2;have xN:=ag hH;have hgw:w.heap.size<=Wg.heap.size:=by have:=rW.out.size;have:=Iw.size;have:=Fm.size;omega
 have hwe:w.heap.size<We.heap.size:=az Vz.out;have Aq:Wd.heap.size<We.heap.size:=az G5.out;have Ox:We.heap.size<=Wf.heap.size:=Iw.size;clear hst N7 I2 Fm ff IB cy hH xg Iw
 go_upto_region 8 with fail
 rw[HWG.out];clear HWG
 go_wp2_with (refine wpList_make_full _ rfl _ _ 37 rfl w.heap.size 4 ib _ 1 underlying37 hib aG aP _ _ _ _ Ns.length rfl rfl rfl rfl (by rw[aL];omega) (by unfold maxLen;omega) hgw ?_;intro W1 bV nM;rw[zil]at bV;have qC:=zkA bV;rw[zhb,HSG.out]at qC;have l7:=gY.out W1 nM qC;rw[HSG.out];clear bV nM qC gY)
 generalize iV:We.heap.size=gt at *;generalize Dl:Wf.heap.size=db at *;generalize hWh:W1.alloc (zx #[zi (zh ⟨db+1,0,za⟩) Ns.length Ns.length] 37)=Wh at *;have oa:=ag l7;clear hWh l7;have zz6:∀(k:Nat) (b:dm),(aK X)[k]?=zh b->True:=λ_ _ _=>trivial
 clear zz6
 go_loopw [10,11] (λsv ki W=>∃(k:Nat) (gs:Nat->Nat) (v:Nat->zB),ki=zn .i64 k/\k<=(dI (aK X) k).1.length/\(dI (aK X) k).1.length<=most/\(∀i,i<k->i<(dI (aK X) i).1.length/\(dI (aK X) (i+1)).1.length<=most)/\v 4=.slice a1 H k1/\lD We gt db W X Ns.length H v (mV (aK X) (dI (aK X) k).2 k k) sv gs (dI (aK X) k).1) (λ_ i _=>4001-(intOf i).toNat)
 case atStart=>exact⟨0,_,_,rfl,bH _,h1,λi h=>absurd h (by omega),by rw[<-e1];rfl,oa.out⟩
 case round=>
  obtain⟨k,gs,v,rfl,tY,cK,hgo,I6,hI⟩:=hrel;clear oa;have U9:=ag hgo;have zO:=ag I6;clear hgo I6
  by_cases hlt:k<(dI (aK X) k).1.length
  ·obtain⟨L,hL⟩:∃L,(dI (aK X) k).1=L:=⟨_,rfl⟩;obtain⟨nx,iD⟩:∃nx,(dI (aK X) k).2=nx:=⟨_,rfl⟩;rw[hL]at hlt tY cK hI;rw[iD]at hI;have HL:=ag hL;have kS:=ag iD;have il:nx.length=k*H:=by rw[<-iD,(Ql (aK X) k).nl,xN.out]
   have zCX:nx.length<=1100000:=by rw[il];exact cM (nt (by omega:k<=4000) hHl) (by decide)
   clear hL iD il;have rC:L.getD k fM=Pn (aK X) k:=by rw[<-HL.out];rfl
   obtain⟨gv,cv,m,rfl,hcell,ub,pQ,wJ⟩:=hI.at hlt;rw[rC]at pQ wJ;obtain⟨sk,Zp⟩:∃sk,Pn (aK X) k=sk:=⟨_,rfl⟩;rw[Zp]at pQ wJ;have iP:=ag Zp;obtain⟨gk,YE⟩:∃gk,gs k=gk:=⟨_,rfl⟩;rw[YE]at hcell ub;have U7:=ag YE;have Yx:((k:Int)==0)=(k==0):=by rw[Ej,beq_iff_eq,beq_iff_eq];omega
   obtain⟨f0,pn⟩:∃f0:Bool,(k==0)=f0:=⟨_,rfl⟩;rw[pn]at Yx;have U1:=ag pn;have fk:(0:Int)<=(k:Int):=by omega
   have cG:(k:Int)<(L.length:Int):=by omega
   have HIM:=ag pQ;have HSU:=ag wJ;have lY:=ag hI;have QP:=ag rC;clear rC Zp pQ wJ YE pn hI;have zyy:=ag hcell;have zyF:=ag ub;clear hcell ub;obtain⟨⟨a3,c3⟩,jo⟩:=cJ (lY.out.aq.own 2 (by omega));rw[show mV (aK X) nx k k 2=rL (aK X) false k from rfl,Mk]at jo;have UZ:=ag jo;have Cd:∀s:zC wr,s.W.cell? ⟨db,3,za⟩=zh (.slice a3 k c3):=λs=>by have:=(cE (lY.out.call s.h).BK).2.2.2.1;rw[UZ.out]at this;exact this
   have Cx:∀s:zC wr,s.W.cell? ⟨Wd.heap.size,0,za⟩=zh (.slice no Ns.length nc)/\s.W.cell? ⟨Wd.heap.size,1,za⟩=zh (.slice bo X.length bc):=λs=>dM (((lY.out.call s.h).bg.block _ Aq).trans G5.out)
   have UO:=λs=>(Cx s).1
   have UQ:=λs=>(Cx s).2
   have hcell:=zyy.out;have Cs:∀s:zC wr,s.W.cell? ⟨gv,k,za⟩=zh (zi (zh ⟨gk,0,za⟩) Ns.length Ns.length):=λs=>(s.h.cell (p:=⟨gv,k,za⟩) (zoh hcell)).trans hcell
   obtain⟨ya2,ZJ⟩:∃ya,zW (aK X) f0 sk false=ya:=⟨_,rfl⟩;have Ca:∀W,zp wr.heap.size wr W->Calls prog 41 #[zy #[.slice no Ns.length nc,.slice bo X.length bc],.bool f0,zi (zh ⟨gk,0,za⟩) Ns.length Ns.length,.bool false] W λe W'=>∃u,e=.returned u/\u=zn .i64 ya2/\zp W.heap.size W W':=λW h=>(zg9 Wc W _ _ Ns X f0 false gk Ns.length m sk (qU.out.below (lY.out.call h).Nz) (zyF.out.below h) HIM.out).mono λe W' ⟨h1,h2⟩=>⟨_,h1,by rw[ZJ],h2⟩
   have zyU:=ag ZJ;have Ex:=ag Ca;clear Cx jo hcell Ca ZJ
   go_upto_region 12 with fail
   refine PD 9 11 (λw'=>∃s:zC wr,w'=s.W) du ⟨⟨wr.drew,⟨rfl,rfl,rfl,ax _,λ_ _=>rfl⟩⟩,rfl⟩ (by kernel_rfl) ?_;intro os aX;simp only[gG,kQ]at aX;subst aX
   repeat (go_big_quiet_step (fail))
   refine wpQuiet_nil ?_;rintro w' ⟨⟨Wb2,Sl⟩,rfl⟩ r hr;simp only[rT,qi]at hr;subst hr;clear Cd UO UQ Cs;refine yX rfl (λK5 bh=>?_);refine zjl 41 #[.tmp 49,.tmp 51,.tmp 55,.const (.bool false)] #[80,4,37,4] (by rfl) #[zy #[.slice no Ns.length nc,.slice bo X.length bc],.bool f0,zi (zh ⟨gk,0,za⟩) Ns.length Ns.length,.bool false] (by simp[Act.eval]) _ (zmq _ _) (Ex.out _ Sl) ?_;rintro u Wk2 ⟨rfl,bJ⟩;have Oe:=bi Sl Sl.size bJ;refine bh _ _ (λ_=>⟨⟨_,Oe⟩,rfl⟩) ?_;clear bh K5 bJ Ex;simp only[Act.put,zv,zz,zt];refine yX rfl (λK5 bh=>?_)
   first|go_big_move|go_big_op
   refine bh _ _ (λ_=>⟨⟨_,Oe.alloc Oe.size _⟩,rfl⟩) ?_;clear bh K5;refine Jp _ _ _ _ (ax _) (λ_ _ h=>h) ?_;have XC:=lY.out.call Oe;have iE:=XC.size;have Vb:=ag XC;clear XC
   go_wp2_with (at_builtin;refine jw Vb.out.aq _ rfl rfl (.tmp 48) (.tmp 57) rfl 2 (by omega) (rL (aK X) false k) rfl k (Mk _ _ _) (by exact UZ.out.symm) ya2 rfl (by omega) iE ?_;intro g2 d2 V2 hF2 dH;obtain⟨eG,J2⟩:=Vb.out.field (Below.refl _ _) (i:=2) (off:=3) (by omega) rfl hF2 dH;have y2:=(cE eG).2.2.2.1;rw[UZ.out]at y2;have q9:=aR _ _ 3 _ _ eG;clear hF2 dH eG)
   rw[oJ];rw[show bq (mV (aK X) nx k k) 2 (rL (aK X) false k++[ya2])=mV (aK X) nx (k+1) k by unfold mV;rw[ztQ,zkX (aK X) false k,U1.out,iP.out,zyU.out]]at J2;generalize hU2:V2.setCell ⟨db,3,za⟩ (zi (zh ⟨g2,0,za⟩) (k+1) d2)=U2 at *;have nz:=ag J2;obtain⟨gv',EZ,m2,eg,hcell,ub,pQ,wJ⟩:=J2.at hlt;cases eg;rw[QP.out,iP.out]at pQ wJ;rw[U7.out]at hcell ub;have zyz:=ag hcell;have zyG:=ag ub;have zyD:=ag pQ;clear hU2 J2 y2 q9 Vb iE Oe Sl pQ wJ hcell ub;obtain⟨⟨a4,c4⟩,ig⟩:=cJ (nz.out.aq.own 3 (by omega));rw[show mV (aK X) nx (k+1) k 3=rL (aK X) true k from rfl,Mk]at ig;have U0:=ag ig;have Cd:∀s:zC U2,s.W.cell? ⟨db,4,za⟩=zh (.slice a4 k c4):=λs=>by have:=(cE (nz.out.call s.h).BK).2.2.2.2;rw[U0.out]at this;exact this
   have Cx:∀s:zC U2,s.W.cell? ⟨Wd.heap.size,0,za⟩=zh (.slice no Ns.length nc)/\s.W.cell? ⟨Wd.heap.size,1,za⟩=zh (.slice bo X.length bc):=λs=>dM (((nz.out.call s.h).bg.block _ Aq).trans G5.out)
   have UO:=λs=>(Cx s).1
   have UQ:=λs=>(Cx s).2
   have hcell:=zyz.out;have Cs:∀s:zC U2,s.W.cell? ⟨gv,k,za⟩=zh (zi (zh ⟨gk,0,za⟩) Ns.length Ns.length):=λs=>(s.h.cell (p:=⟨gv,k,za⟩) (zoh hcell)).trans hcell
   obtain⟨ya3,ZK⟩:∃ya,zW (aK X) f0 sk true=ya:=⟨_,rfl⟩;have Ca:∀W,zp U2.heap.size U2 W->Calls prog 41 #[zy #[.slice no Ns.length nc,.slice bo X.length bc],.bool f0,zi (zh ⟨gk,0,za⟩) Ns.length Ns.length,.bool true] W λe W'=>∃u,e=.returned u/\u=zn .i64 ya3/\zp W.heap.size W W':=λW h=>(zg9 Wc W _ _ Ns X f0 true gk Ns.length m2 sk (qU.out.below (nz.out.call h).Nz) (zyG.out.below h) zyD.out).mono λe W' ⟨h1,h2⟩=>⟨_,h1,by rw[ZK],h2⟩
   have zyV:=ag ZK;have Ex:=ag Ca;clear Cx ig hcell Ca ZK
   go_upto_region 13 with fail
   refine PD 9 11 (λw'=>∃s:zC U2,w'=s.W) du ⟨⟨U2.drew,⟨rfl,rfl,rfl,ax _,λ_ _=>rfl⟩⟩,rfl⟩ (by kernel_rfl) ?_;intro os aX;simp only[gG,kQ]at aX;subst aX
   repeat (go_big_quiet_step (fail))
   refine wpQuiet_nil ?_;rintro w' ⟨⟨Wb3,Sm⟩,rfl⟩ r hr;simp only[rT,qi]at hr;subst hr;clear Cd UO UQ Cs;refine yX rfl (λK5 bh=>?_);refine zjl 41 #[.tmp 62,.tmp 64,.tmp 68,.const (.bool true)] #[80,4,37,4] (by rfl) #[zy #[.slice no Ns.length nc,.slice bo X.length bc],.bool f0,zi (zh ⟨gk,0,za⟩) Ns.length Ns.length,.bool true] (by simp[Act.eval]) _ (zmq _ _) (Ex.out _ Sm) ?_;rintro u Wk3 ⟨rfl,cP⟩;have Of:=bi Sm Sm.size cP;refine bh _ _ (λ_=>⟨⟨_,Of⟩,rfl⟩) ?_;clear bh K5 cP Ex;simp only[Act.put,zv,zz,zt];refine yX rfl (λK5 bh=>?_)
   first|go_big_move|go_big_op
   refine bh _ _ (λ_=>⟨⟨_,Of.alloc Of.size _⟩,rfl⟩) ?_;clear bh K5;refine Jp _ _ _ _ (ax _) (λ_ _ h=>h) ?_;have XD:=nz.out.call Of;have zxX:=XD.size;have Vc:=ag XD;clear XD
   go_wp2_with (at_builtin;refine jw Vc.out.aq _ rfl rfl (.tmp 61) (.tmp 70) rfl 3 (by omega) (rL (aK X) true k) rfl k (Mk _ _ _) (by exact U0.out.symm) ya3 rfl (by omega) zxX ?_;intro g3 d3 V3 R7 hg3;obtain⟨WJ,J3⟩:=Vc.out.field (Below.refl _ _) (i:=3) (off:=4) (by omega) rfl R7 hg3;have y3:=(cE WJ).2.2.2.2;rw[U0.out]at y3;have fz3:=aR _ _ 4 _ _ WJ;clear R7 hg3 WJ)
   rw[oJ];rw[show bq (mV (aK X) nx (k+1) k) 3 (rL (aK X) true k++[ya3])=mV (aK X) nx (k+1) (k+1) by unfold mV;rw[ztR,zkX (aK X) true k,U1.out,iP.out,zyV.out]]at J3;generalize hU3:V3.setCell ⟨db,4,za⟩ (zi (zh ⟨g3,0,za⟩) (k+1) d3)=U3 at *;have j7:=ag J3;obtain⟨gv',EZ,m3,eg,hcell,ub,pQ,wJ⟩:=J3.at hlt;cases eg;rw[QP.out,iP.out]at pQ wJ;rw[U7.out]at hcell ub;have zBw:=ag hcell;have zBy:=ag ub;have zBx:=ag pQ;clear hU3 J3 y3 fz3 Vc zxX Of Sm pQ wJ hcell ub;have hrun:dI (aK X) k=(L,nx):=Prod.ext HL.out kS.out;have zvL:=ag hrun;have zx5:(upd (upd v 2 (zi (zh ⟨g2,0,za⟩) (k+1) d2)) 3 (zi (zh ⟨g3,0,za⟩) (k+1) d3)) 4=.slice a1 H k1:=by rw[bW _ _ (by omega),bW _ _ (by omega)];exact zO.out
   have zyP:=ag zx5;clear hrun zx5
   go_wp2_with fail
   go_loopw [10,75] (λsv mi W=>∃(j:Nat) (gs':Nat->Nat) (v':Nat->zB),j<=H/\mi=zn .i64 j/\v' 4=.slice a1 H k1/\gs' k=gk/\lD We gt db W X Ns.length H v' (mV (aK X) (qO (aK X) f0 sk (L,nx) j).2 (k+1) (k+1)) sv gs' (qO (aK X) f0 sk (L,nx) j).1) (λ_ i _=>H-(intOf i).toNat)
   case atStart=>exact⟨0,gs,_,bH _,rfl,zyP.out,U7.out,j7.out⟩
   case round=>
    obtain⟨j,gs',v',hj,rfl,zx4,zxa,hI⟩:=hrel;have QQ:=ag zx4;have U8:=ag zxa;clear zx4 zxa;obtain⟨⟨P,q⟩,hP⟩:∃Pq,qO (aK X) f0 sk (L,nx) j=Pq:=⟨_,rfl⟩;rw[hP]at hI;have Vp:=ag hP;have hPl:L.length<=P.length:=by have:=zmM (aK X) f0 sk (L,nx) j;rw[hP]at this;exact this
    have hPu:P.length<=L.length+j:=by have:=zkE (aK X) f0 sk (L,nx) j (by rw[xN.out];exact hj);rw[hP]at this;exact this
    have yy:P.getD k fM=sk:=by have:=zmL (aK X) f0 sk (L,nx) j (i:=k) hlt;rw[hP]at this;rw[<-iP.out,<-QP.out];exact this
    have zwB:k<P.length:=by omega
    by_cases tX:j<H
    ·have hql:q.length<=1100000:=by
      have:=(CV.part (bs:=aK X) (fst:=f0) (S:=sk) (st:=(L,nx)) (n:=k*H) (by have:=Ql (aK X) k;rw[zvL.out,xN.out]at this;exact this) j (by rw[xN.out];exact hj)).nl;rw[hP]at this;have hq:q.length=k*H+j:=this;have yF:k*H<=3999*256:=nt (by omega) hHl;omega
     have hh:=ztu (aK X) (m:=j) (by rw[xN.out];exact tX);obtain⟨gh,kh,NF,OB,-,zwX⟩:=pC (hI.aq.own 4 (by omega)) (by show 0<(aO (iI (aK X))).length;rw[cW,xN.out];omega);have c4:=zwX j (by show j<(aO (iI (aK X))).length;rw[cW,xN.out];exact tX);rw[show mV (aK X) q (k+1) (k+1) 4=aO (iI (aK X)) from rfl,uu]at c4;rw[QQ.out,show (mV (aK X) q (k+1) (k+1) 4).length=(aO (iI (aK X))).length from rfl,cW,xN.out]at NF;cases NF;obtain⟨h,uZ⟩:∃h,(iI (aK X)).getD j 0=h:=⟨_,rfl⟩;rw[uZ]at c4 hh;have CF:=ag uZ;obtain⟨WY,cv2,rH,eg,hcell,ub,pQ,wJ⟩:=hI.at zwB;subst eg;rw[yy]at pQ wJ;rw[U8.out]at hcell ub;obtain⟨x0,x1⟩:=dM ((hI.bg.block _ Aq).trans G5.out);have zCM:(0:Int)<=(j:Int):=by omega
     have zCN:(j:Int)<(H:Int):=by omega
     have zCY:(k:Int)<(P.length:Int):=by omega
     have Pa:=ztg hh;have ho:=ztD pQ qU.out.cR f0 h;have cA:=λnq=>znF Wc (wr.drewN nq) (.slice no Ns.length nc) (.slice bo X.length bc) Ns X f0 gk Ns.length h rH (qU.out.below (hI.call (show zp wr.heap.size wr (wr.drewN nq) from⟨rfl,rfl,rfl,ax _,λ_ _=>rfl⟩)).Nz) (ub.below ⟨rfl,rfl,rfl,ax _,λ_ _=>rfl⟩) hh
     have eP:=ag hI;have HO:=ag ho;have Ex:=ag cA;clear uZ zwX pQ wJ ub ho cA hI hP
     go_upto_region 17 with fail
     refine Jo 9 (λw'=>∃n,w'=wr.drewN n) du ⟨1,rfl⟩ (by decide) (by kernel_rfl) ?_;intro os aX;simp only[gG,kQ]at aX;subst aX
     repeat (go_big_quiet_step (fail))
     refine wpQuiet_nil ?_;rintro w' ⟨nq,rfl⟩ r hr;simp only[rT,qi]at hr;subst hr
     go_wp2_with fail
     refine(Ex.out nq).mono ?_;rintro e Wa ⟨go,rfl,hgo,Lt,gP⟩;clear Ex;have zwO:zp wr.heap.size wr Wa:=⟨gP.os,gP.tape,gP.output,gP.size,gP.block⟩;have HIa:=ag (eP.out.call zwO);have HMO:=ag Lt;have zAn:gt<=go:=by have:=eP.out.size;have zCo:wr.heap.size<=go:=hgo;omega
     obtain⟨S',KY⟩:∃S',lh (aK X) f0 sk h=S':=⟨_,rfl⟩;have Zn:=zpV X f0 sk h;rw[KY]at Zn;have Vr:=ag KY;have HSS:=ag Zn;have HOM:Hid (vS X Ns.length (qa X f0 rH h X.length) S'):=by have:=HO.out;rw[KY]at this;exact this
     generalize hom:qa X f0 rH h X.length=om at *;have hPP:P.length<=5000:=by omega
     clear hom gP zwO Lt hgo KY Zn x0 x1 hcell c4 HO
     go_wp2_with fail
     go_loopw [15,16] (λtv ji W=>∃i:Nat,1<=i/\i<=P.length/\ji=zn .i64 i/\tv=zn .i64 (-1)/\lD We gt db W X Ns.length H v' (mV (aK X) q (k+1) (k+1)) (zi (zh ⟨WY,0,za⟩) P.length cv2) gs' P/\gZ W go Ns.length om/\∀i',1<=i'->i'<i->P.getD i' fM≠S') (λ_ i _=>P.length-(intOf i).toNat)
     case atStart=>exact⟨1,ax _,by omega,rfl,rfl,HIa.out,HMO.out,λi' h1 h2=>by omega⟩
     case round=>
      obtain⟨i,cG,fA,rfl,rfl,hI,hm,hno⟩:=hrel;have zL:=ag hno;clear hno
      by_cases FA:i<P.length
      ·obtain⟨gv3,ND,mi,eg,Le,hmi,pQ,FJ⟩:=hI.at FA;cases eg;have cs:=zoV wr Ns.length (gs' i) go Ns.length Ns.length mi om hmi hm jF;have BX:=zro pQ HOM.out qU.out.cR FJ HSS.out;have HSA:=ag BX;have GR:=ag hI;have jh:=ag hm;have zCu:(0:Int)<=(i:Int):=by omega
       have zCv:(i:Int)<(P.length:Int):=by omega
       clear hI hm BX pQ FJ hmi
       go_wp2_with fail
       refine cs.mono ?_;rintro e Ws ⟨⟨b,rfl,hb⟩,qx⟩;have Ez:=ag (GR.out.call qx);have vL:=ag (jh.out.below qx);have zF:=ag hb;clear cs qx hb;cases b
       ·go_wp2
        go_roundw
        case rel=>exact⟨i+1,by omega,by omega,by go_num,rfl,Ez.out,vL.out,λi' h1 h2=>by
         rcases jP i' i with h3|h3
         ·exact zL.out i' h1 h3
         ·obtain rfl:i'=i:=by omega
          exact λe=>Bool.false_ne_true (zF.out.2 (HSA.out.2 e))⟩
        case measure=>simp[intOf];omega
       ·have YI:=HSA.out.1 (zF.out.1 rfl);have iD:=zsI cG FA YI zL.out;rw[<-Vr.out]at iD;have FM:=ztc (bs:=aK X) (fst:=f0) (S:=sk) (nx:=q) iD FA;have I0:qO (aK X) f0 sk (L,nx) (j+1)=(P,q++[i]):=by rw[TI _ _ _ _ (by rw[xN.out];exact tX),Vp.out,CF.out];exact FM
        have GX:=ag I0;obtain⟨⟨an,kn⟩,en⟩:=cJ (Ez.out.aq.own 1 (by omega));rw[show mV (aK X) q (k+1) (k+1) 1=aO q from rfl,cW]at en;have MP:=ag en;have Yq:=(cE Ez.out.BK).2.2.1;rw[en]at Yq;have hsz:=Ez.out.size;have zCw:decide ((i:Int)<0)=false:=decide_eq_false (by omega);clear YI iD FM I0 en
        go_upto_region 28 with (at_builtin;refine jw Ez.out.aq _ rfl rfl (.tmp 111) (.tmp 113) rfl 1 (by omega) (aO q) rfl q.length (cW _) (by exact MP.out.symm) (i:Int) rfl (by omega) hsz ?_;intro g5 c5 V5 nJ dF;obtain⟨tL,J5⟩:=Ez.out.field (Below.refl _ _) (i:=1) (off:=2) (by omega) rfl nJ dF;have y5:=(cE tL).2.2.1;rw[MP.out]at y5;have Ic:=aR _ _ 2 _ _ tL;clear nJ dF tL)
        rw[show bq (mV (aK X) q (k+1) (k+1)) 1 (aO q++[(i:Int)])=mV (aK X) (q++[i]) (k+1) (k+1) by unfold mV;rw[ztx,show aO q++[(i:Int)]=aO (q++[i]) by simp[aO]]]at J5;generalize XU:V5.setCell ⟨db,2,za⟩ _=U5 at *;have AK:(upd v' 1 (zi (zh ⟨g5,0,za⟩) (q.length+1) c5)) 4=zi (zh ⟨gh,0,za⟩) H k1:=by rw[bW _ _ (by omega)];exact QQ.out
        generalize upd v' 1 (zi (zh ⟨g5,0,za⟩) (q.length+1) c5)=v5 at *;have zH:=ag J5;have G4:=ag AK;clear J5 y5 Ic XU AK;go_wp2
        go_roundw
        case rel=>exact⟨j+1,gs',v5,by omega,by go_num,G4.out,U8.out,by rw[GX.out];exact zH.out⟩
        case measure=>simp[intOf];omega
      ·have iD:=zq8 (L:=P) (S:=S') (by omega) (λi' h1 h2=>zL.out i' h1 (by omega));rw[<-Vr.out]at iD;have FM:=ztd (bs:=aK X) (fst:=f0) (S:=sk) (nx:=q) iD;have I0:qO (aK X) f0 sk (L,nx) (j+1)=(P++[S'],q++[P.length]):=by rw[TI _ _ _ _ (by rw[xN.out];exact tX),Vp.out,CF.out,<-Vr.out];exact FM
       have GX:=ag I0;have Ez:=ag hI;have vL:=ag hm;have hsz:=hI.size;have zxK:=hI.out;obtain⟨iS,Aw,AM,AO,AP⟩:=info_parts Try.zA9;have hxi:decide ((i:Int)<(P.length:Int))=false:=decide_eq_false (by omega);have zxS:∀(V:zw) (g c:Nat),V.ownsRow (gt+1) 37 1 (zi (zh ⟨g,0,za⟩) (P.length+1) c) (P.length+1) (zq gs' Ns.length P.length++[zi (zh ⟨go,0,za⟩) Ns.length Ns.length])->wr.grownBy V (zh WY)->∃RZ:Nat->Nat,RZ k=gk/\lD We gt db V X Ns.length H v' (mV (aK X) q (k+1) (k+1)) (zi (zh ⟨g,0,za⟩) (P.length+1) c) RZ (P++[S']):=λV g c h1 h2=>⟨_,by rw[ab (by omega)];exact U8.out,Ez.out.set (Below.refl _ _) zAn vL.out HOM.out HSS.out h1 h2⟩
       have lH:=ag zxS;clear iD FM I0 hI hm zxS
       go_upto_region 27 with (at_builtin;refine AZ wr _ rfl rfl (.tmp 106) (.tmp 108) 83 rfl (gt+1) 37 iS (zi za 0 0) 24 underlying83 Aw AM AO AP rfl WY cv2 P.length (zq gs' Ns.length P.length) (zi (zh ⟨go,0,za⟩) Ns.length Ns.length) rfl zxK rfl rfl (by omega) (by omega) hsz ?_;intro g6 c6 V6 hO6 ow zzZ)
       obtain⟨RZ,pP,J7⟩:=lH.out V6 g6 c6 hO6 ow;have HI7:=ag J7;have HG7:=ag pP;obtain⟨⟨an,kn⟩,en⟩:=cJ (J7.aq.own 1 (by omega));rw[show mV (aK X) q (k+1) (k+1) 1=aO q from rfl,cW]at en;have MP:=ag en;have Yq:=(cE J7.BK).2.2.1;rw[en]at Yq;have zAY:=J7.size;clear hO6 ow zzZ J7 pP en zxK
       go_upto_region 28 with (at_builtin;refine jw HI7.out.aq _ rfl rfl (.tmp 111) (.tmp 113) rfl 1 (by omega) (aO q) rfl q.length (cW _) (by exact MP.out.symm) (P.length:Int) rfl (by omega) zAY ?_;intro g5 c5 V5 nJ dF;obtain⟨tL,J5⟩:=HI7.out.field (Below.refl _ _) (i:=1) (off:=2) (by omega) rfl nJ dF;have y5:=(cE tL).2.2.1;rw[MP.out]at y5;have Ic:=aR _ _ 2 _ _ tL;clear nJ dF tL)
       rw[show bq (mV (aK X) q (k+1) (k+1)) 1 (aO q++[(P.length:Int)])=mV (aK X) (q++[P.length]) (k+1) (k+1) by unfold mV;rw[ztx,show aO q++[(P.length:Int)]=aO (q++[P.length]) by simp[aO]]]at J5;generalize XU:V5.setCell ⟨db,2,za⟩ _=U5 at *;have AK:(upd v' 1 (zi (zh ⟨g5,0,za⟩) (q.length+1) c5)) 4=zi (zh ⟨gh,0,za⟩) H k1:=by rw[bW _ _ (by omega)];exact QQ.out
       generalize upd v' 1 (zi (zh ⟨g5,0,za⟩) (q.length+1) c5)=v5 at *;have zH:=ag J5;have G4:=ag AK;clear J5 y5 Ic XU AK;go_wp2
       go_roundw
       case rel=>exact⟨j+1,RZ,v5,by omega,by go_num,G4.out,HG7.out,by rw[GX.out];exact zH.out⟩
       case measure=>simp[intOf];omega
    ·have me:j=H:=by omega
     have hrk:dI (aK X) (k+1)=(P,q):=by
      rw[Ul,zvL.out,U1.out,xN.out];rw[show (L,nx).1.getD k fM=sk from QP.out.trans iP.out,<-me];exact Vp.out
     have M7:=ag hrk;have iU:=bi rW.out rW.out.size hI.Nz;have Ev:=ag iU;obtain⟨gv3,ND,m3,eg,-,-,-,-⟩:=hI.at zwB;subst eg;have xz:=(hI.bg.block _ hwe).trans Vz.out;obtain⟨z0,z1,z2,z3,z4⟩:=TY xz;obtain⟨f0',RU,KD,f3',f4'⟩:=TR xz;have HI8:=ag hI;have hjx:¬(j:Int)<(H:Int):=by omega
     clear hrk iU hI xz hP
     by_cases Sr:most<P.length
     ·have aP:decide ((most:Int)<(P.length:Int))=true:=decide_eq_true (by omega);have aL:(most:Int)<(P.length:Int):=by omega
      go_wp2;refine bw (v:=.tuple #[zy #[zi za 0 0,zn .i64 0,zi za 0 0,zi za 0 0,zi za 0 0],zn .i64 3]) (by simp[results,results30,go_sem,z0,z1,z2,z3,z4]) rfl ?_;refine hR ⟨k,?_⟩ _ (Cc Ev.out (ax _) _ _ _ _ _);rw[<-UT.out];exact⟨U9.out,by rw[HL.out];exact hlt,by rw[M7.out];exact Sr⟩
     ·have aP:decide ((most:Int)<(P.length:Int))=false:=decide_eq_false (by omega);have aL:¬(most:Int)<(P.length:Int):=by omega
      go_wp2
      go_roundw
      case rel=>
       refine⟨k+1,gs',v',by go_num,?_,?_,λi h=>?_,QQ.out,?_⟩
       ·rw[M7.out];show k+1<=P.length;omega
       ·rw[M7.out];show P.length<=most;omega
       ·rcases jP i k with h3|h3
        ·exact U9.out i h3
        ·obtain rfl:i=k:=by omega
         exact⟨by rw[HL.out];exact hlt,by rw[M7.out];show P.length<=most;omega⟩
       ·rw[M7.out];exact HI8.out
      case measure=>simp[intOf];omega
  ·have cI:(dI (aK X) k).1.length=k:=by omega
   have Xt:zA (aK X) most k:=⟨cI,U9.out⟩;obtain⟨mP,lR⟩:=zqA Xt;have hD:dk (gt+1) wr (v 0) (v 1) (v 2) (v 3) (ie (aK X) k):=by
    have o0:=hI.aq.own 0 (by omega);have o1:=hI.aq.own 1 (by omega);have o2:=hI.aq.own 2 (by omega);have o3:=hI.aq.own 3 (by omega);have jG:(aO (dI (aK X) k).2).length<=9223372036854775807:=by
     rw[cW,(Ql (aK X) k).nl];have:k*(iI (aK X)).length<=4000*256:=nt (by omega) (zlD _);omega
    refine⟨dQ.at o0 (by show (qX (aK X) 256).length<=_;rw[Me];omega),dQ.at o1 jG,?_,?_⟩
    ·rw[mP];exact dQ.at o2 (by show (rL (aK X) false k).length<=_;rw[Mk];omega)
    ·rw[lR];exact dQ.at o3 (by show (rL (aK X) true k).length<=_;rw[Mk];omega)
   have cm:=zhw (v 0) (v 1) (v 2) (v 3) (ie (aK X) k) wr hD;rw[show (ie (aK X) k).width=((iI (aK X)).length:Int) from rfl,xN.out]at cm;obtain⟨y0,y1,y2,y3,y4⟩:=cE hI.BK;have xz:=(hI.bg.block _ hwe).trans Vz.out;have HXZ:=ag xz;have iU:=bi rW.out rW.out.size hI.Nz;have Ev:=ag iU;have zyB:=ag Xt;have wF:decide ((k:Int)<((dI (aK X) k).1.length:Int))=false:=decide_eq_false (by omega);have zCy:¬(k:Int)<((dI (aK X) k).1.length:Int):=by omega
   obtain⟨gv0,cv0,rfl⟩:=hI.form;generalize Sc:(dI (aK X) k).1.length=LL at *;clear hD mP lR Xt hI iU xz cI Sc
   go_upto_region 31 with fail
   go_wp2_with fail
   refine cm.mono ?_;rintro e Wm ⟨gm,vm,rfl,BU,KH,re⟩;have xm:=(re.block _ (az HXZ.out)).trans HXZ.out;obtain⟨z0,z1,z2,z3,z4⟩:=TY xm;obtain⟨f0',RU,KD,f3',f4'⟩:=TR xm;obtain⟨⟨b0,d0⟩,w0e⟩:=cJ (KH.own 0 (by omega));obtain⟨⟨b1,d1⟩,w1e⟩:=cJ (KH.own 1 (by omega));obtain⟨⟨b2,d2⟩,w2e⟩:=cJ (KH.own 2 (by omega));obtain⟨⟨b3,d3⟩,w3e⟩:=cJ (KH.own 3 (by omega));have zwG:vB w 0 (km (ie (aK X) k)) (dA (ie (aK X) k)) (.returned (.tuple #[zy (fH (km (ie (aK X) k)) vm),zn .i64 0])) (dJ Wm w.heap.size (vm 0) (zn .i64 (km (ie (aK X) k))) (vm 1) (vm 2) (vm 3)):=
    ⟨gm,vm,rfl,by have:=Ev.out.size;omega,KH.dJ (by have:=Ev.out.size;omega) _ _ _ _ _,Cc (bi Ev.out Ev.out.size re) (ax _) _ _ _ _ _⟩
   have zyw:=ag zwG;generalize hmw:km (ie (aK X) k)=mw at *;generalize (dA (ie (aK X) k) 0).length=n0 at *;generalize (dA (ie (aK X) k) 1).length=n1 at *;generalize (dA (ie (aK X) k) 2).length=n2 at *;generalize (dA (ie (aK X) k) 3).length=n3 at *;have yL:fH mw vm=#[.slice b0 n0 d0,zn .i64 mw,.slice b1 n1 d1,.slice b2 n2 d2,.slice b3 n3 d3]:=by unfold fH;rw[w0e,w1e,w2e,w3e]
   rw[yL];have HRD:=ag yL;have zyQ:=ag w0e;have zyR:=ag w1e;have zyS:=ag w2e;have zyT:=ag w3e;have HMW:=ag hmw;clear zwG xm KH re cm y0 y1 y2 y3 y4 yL w0e w1e w2e w3e hmw;go_wp2;refine bw (v:=.tuple #[zy #[.slice b0 n0 d0,zn .i64 mw,.slice b1 n1 d1,.slice b2 n2 d2,.slice b3 n3 d3],zn .i64 0]) (by simp[results,results30,go_sem,z0,z1,z2,z3,z4]) rfl ?_;refine hE k (by rw[<-UT.out];exact zyB.out) _ _ ?_;rw[<-UT.out,HMW.out,<-HRD.out,<-zyQ.out,<-zyR.out,<-zyS.out,<-zyT.out];exact zyw.out
end Go.Proofs.Ytfajjdgkiilhfaa
