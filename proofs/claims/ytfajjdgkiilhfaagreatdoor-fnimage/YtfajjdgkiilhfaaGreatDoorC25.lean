import Derived.Test.YtfajjdgkiilhfaaGreatDoorC24
namespace Go.Proofs.YtfajjdgkiilhfaaGreatDoor
open Proofs.Tryz
open Option renaming none->za,some->zb
open Value renaming slice->zd,int->ze,agg->zi
open RowKit renaming Below->zf
open Go renaming World->zg,Value->zj
open Obj renaming cells->zh
set_option maxHeartbeats 8000000
set_option maxRecDepth 100000
open Go.RowKit
attribute [local go_sem ↓] wp_at_zero wp_at_succ
variable {Wb W:zg}{gt db N:Nat}{X:Xs}{width:Int}{v:Nat -> zj}{ls:Nat -> List Int}{sv:zj}{gs:Nat -> Nat}{L:List St}
noncomputable def mX (bs:List dn) (nx:List Nat) (t e:Nat):Nat->List Int:=xY (rb bs 256) (dy nx) (rG bs false t) (rG bs true e) (dy (iA bs))
theorem Tz(bs:List dn):jm bs 256 0=rb bs 256/\jm bs 256 1=dy (iA bs):=⟨rfl,rfl⟩
theorem Tryz.zCj:(prog.info? 93).map (λi=>(i.zero,i.size,i.bytes))=zb (zb (zd za 0 0),1,24):=by kernel_rfl
theorem lE.form(h:lE Wb gt db W X N width v ls sv gs L):∃(ga:Option Addr) (ca:Nat),sv=.slice ga L.length ca:=by
 rcases h.out.2 with ⟨e,h0⟩|⟨g,cap,_,e,_⟩
 ·exact⟨za,0,by rw[h0];exact e⟩
 ·exact⟨_,_,e⟩
structure qW(X:zg) where
 W:zg
 h:zf X.heap.size X W
instance zCH (X:zg):Nonempty (qW X):=⟨⟨X,Below.refl _ _⟩⟩
theorem znF(xs:Array zj)(w:zg):(callFunc 56 xs).run prog w=.ok (.enter 56 xs) w:=by kernel_rfl
theorem zpN{w:zg}{g o:Nat}{v:zj}(h:w.cell? ⟨g,o,za⟩=zb v):g<w.heap.size:=by
 rcases iX g w.heap.size with q|q
 ·exact q
 ·have:w.heap[g]?=za:=LF q;simp[World.cell?,this]at h
theorem lE.Mu(h:lE Wb gt db W X N width v ls sv gs L):zf Wb.heap.size Wb W:=by rw[h.gz];exact h.bg
theorem zeE(va:zj)(rs:List dL)(most:Nat)(w:zg)(hs:qJ 0 w va rs)(nL:Jh rs)(h1:1<=most)(h2:most<=4000)(hl:qg rs=true)(R:Ending->zg->Prop)
  (hR:(∃k0,Jd (fA 0 rs) most k0)->∀W,zf w.heap.size w W->R (.returned (.tuple #[.agg bI,ze .i64 3])) W)
  (hE:∀K,yG (fA 0 rs) most K->∀e W,vg w 0 (sD (ie (fA 0 rs) K)) (pY (ie (fA 0 rs) K)) e W->R e W):
  Calls prog 41 #[va,ze .i64 most] w R:=by
 have hb:aG most 1 4000=true:=kK.2 ⟨by omega,by omega⟩;obtain⟨ib,hib,aD,aO,aB⟩:=info_parts Tryz.zzL;have fF:prog.follows .mixedOrders=true:=by kernel_rfl
 obtain⟨W0,aw⟩:∃W0,w.alloc (zh bI 25)=W0:=⟨_,rfl⟩;have b0:zf w.heap.size w W0:=by rw[<-aw];exact ax
 have x0:W0.heap[w.heap.size]?=zb (zh bI 25 (0,0)):=by rw[<-aw];exact aJ _ _
 have cb:=ln most 1 4000 W0;rw[hb]at cb;have cl:=zhJ va rs W0 (hs.below b0) nL.sm;rw[hl]at cl;have cw:=λW (h:zf W0.heap.size W0 W)=>zo6 va rs W (hs.below (aH b0 b0.size h)) nL
 unfold bI at aw;have bD:=ag aw;have HB:=ag b0;have HX:=ag x0;have HCW:=ag cw;clear hb x0 b0 aw hs nL hl cw
 go_enter func41,ntmps41
 go_upto_region 1 with fail
 rw[bD.out];clear bD
 go_wp2_with fail
 refine cb.mono ?_;rintro e W1 ⟨rfl,cZ⟩;subst W1;clear cb
 go_wp2_with fail
 refine cl.mono ?_;rintro e Wc ⟨rfl,b2⟩;have cw:=HCW.out Wc b2;have xc:=(b2.block _ (ay HX.out)).trans HX.out;have tJ:=aH HB.out HB.out.size b2;have HXC:=ag xc;have IV:=ag tJ;clear cl HCW xc tJ b2
 go_wp2_with fail
 refine cw.mono ?_;rintro e Wd ⟨nv,bv,Ns,X,rfl,hsp,nG,AQ⟩;obtain⟨no,nc,rfl,-⟩:=hsp.nx.at_;obtain⟨bo,bc,rfl,-⟩:=hsp.bx.at_;obtain⟨We,Rj⟩:∃We,Wd.alloc (zh #[.slice no Ns.length nc,.slice bo X.length bc] 89)=We:=⟨_,rfl⟩;have be:zf Wd.heap.size Wd We:=by rw[<-Rj];exact ax
 have xe:We.heap[Wd.heap.size]?=zb (zh #[.slice no Ns.length nc,.slice bo X.length bc] 89 (0,0)):=by rw[<-Rj];exact aJ _ _
 have YD:=hsp.below be;have hze:We.heap[w.heap.size]?=zb (zh bI 25 (0,0)):=by
  have e1:=(AQ.block _ (ay HXC.out)).trans HXC.out;exact(be.block _ (ay e1)).trans e1
 have xL:zf w.heap.size w We:=aH (aH IV.out IV.out.size AQ) (aH IV.out IV.out.size AQ).size be;have cy:=zo5 Wc We (.slice no Ns.length nc) (.slice bo X.length bc) Ns X YD;obtain⟨p0,p1⟩:=dV xe;have HWE:=ag Rj;have qZ:=ag YD;have F2:=ag xe;have Vh:=ag hze;have Bw:=ag xL;have Uu:=ag nG;have jo:=hsp.nx.len;clear cw hsp AQ be xe YD hze xL Rj nG
 go_upto_region 6 with fail
 rw[HWE.out];clear HWE
 go_wp2_with fail
 refine cy.mono ?_;rintro e Wf ⟨v2,rfl,GG,GB⟩;obtain⟨⟨a0,k0⟩,e0⟩:=dQ (GG.own 0 (by omega));obtain⟨⟨a1,k1⟩,e1⟩:=dQ (GG.own 1 (by omega));rw[(Tz (aF X)).1,Lb]at e0;rw[(Tz (aF X)).2,gV]at e1;obtain⟨H,hH⟩:∃H,(iA (aF X)).length=H:=⟨_,rfl⟩;have hHl:H<=256:=by rw[<-hH];exact zmQ _
 rw[hH]at e1;obtain⟨Wg,MZ⟩:∃Wg,Wf.alloc (zh #[.slice a0 256 k0,ze .i64 H,zd za 0 0,zd za 0 0,zd za 0 0] 25)=Wg:=⟨_,rfl⟩;have nF:zf Wf.heap.size Wf Wg:=by rw[<-MZ];exact ax
 have et:#[Value.slice a0 256 k0,ze .i64 H,zd za 0 0,zd za 0 0,zd za 0 0]=iF H (vC (v2 0) (v2 1)):=by rw[e0];rfl
 have hst:∀W1,Wg.grownBy W1 za->gZ W1 (Wf.heap.size+1) Ns.length (λ_=>false)->lE We We.heap.size Wf.heap.size (W1.alloc (zh #[zd (zb ⟨Wf.heap.size+1,0,za⟩) Ns.length Ns.length] 93)) X Ns.length H (vC (v2 0) (v2 1)) (mX (aF X) [] 0 0) (zd (zb ⟨W1.heap.size,0,za⟩) 1 1) (λ_=>Wf.heap.size+1) [fT]:=λW1 hg hm=>by
  have:=lE.start (We:=We) (Wf:=Wf) (W1:=W1) (gt:=We.heap.size) (X:=X) (N:=Ns.length) (v:=v2) (l:=jm (aF X) 256) (width:=H) rfl GG GB GB.size (by rw[<-et,MZ];exact hg) hm;rw[(Tz (aF X)).1,(Tz (aF X)).2]at this;exact this
 have YA:Wg.heap.size=Wf.heap.size+1:=by rw[<-MZ];simp
 have xg:Wg.heap[Wd.heap.size]?=zb (zh #[.slice no Ns.length nc,.slice bo X.length bc] 89 (0,0)):=(nF.block _ (by have:=ay F2.out;have:=GB.size;omega)).trans ((GB.block _ (ay F2.out)).trans F2.out);obtain⟨p0,p1⟩:=dV xg;have HWG:=ag MZ;have jT:=ag hst;have HSG:=ag YA;have wY:=ag hH;have XO:w.heap.size<=Wg.heap.size:=by have:=Bw.out.size;have:=GB.size;have:=nF.size;omega
 have hwe:w.heap.size<We.heap.size:=ay Vh.out;have zq:Wd.heap.size<We.heap.size:=ay F2.out;have hfe:We.heap.size<=Wf.heap.size:=GB.size;clear hst MZ YA nF et GG cy hH xg GB
 go_upto_region 8 with fail
 rw[HWG.out];clear HWG
 go_wp2_with (refine wpList_make_full _ rfl _ _ 93 rfl w.heap.size 4 ib _ 1 underlying93 hib aD aO _ _ _ _ Ns.length rfl rfl rfl rfl (by rw[aB];omega) (by unfold maxLen;omega) XO ?_;intro W1 bL jn;rw[zi7]at bL;have qE:=zlF bL;rw[zhN,HSG.out]at qE;have oB:=jT.out W1 jn qE;rw[HSG.out];clear bL jn qE jT)
 generalize dN:We.heap.size=gt at *;generalize Ch:Wf.heap.size=db at *;generalize hWh:W1.alloc (zh #[zd (zb ⟨db+1,0,za⟩) Ns.length Ns.length] 93)=Wh at *;have um:=ag oB;clear hWh oB;have zBn:∀(k:Nat) (b:dn),(aF X)[k]?=zb b->True:=λ_ _ _=>trivial
 clear zBn
 go_loopw [10,11] (λsv ki W=>∃(k:Nat) (gs:Nat->Nat) (v:Nat->zj),ki=ze .i64 k/\k<=(dS (aF X) k).1.length/\(dS (aF X) k).1.length<=most/\(∀i,i<k->i<(dS (aF X) i).1.length/\(dS (aF X) (i+1)).1.length<=most)/\v 4=.slice a1 H k1/\lE We gt db W X Ns.length H v (mX (aF X) (dS (aF X) k).2 k k) sv gs (dS (aF X) k).1) (λ_ i _=>4001-(intOf i).toNat)
 case atStart=>exact⟨0,_,_,rfl,dz _,h1,λi h=>absurd h (by omega),by rw[<-e1];rfl,um.out⟩
 case round=>
  obtain⟨k,gs,v,rfl,tM,bO,hgo,Ha,hI⟩:=hrel;clear um;have UO:=ag hgo;have th:=ag Ha;clear hgo Ha
  by_cases hlt:k<(dS (aF X) k).1.length
  ·obtain⟨L,hL⟩:∃L,(dS (aF X) k).1=L:=⟨_,rfl⟩;obtain⟨nx,iw⟩:∃nx,(dS (aF X) k).2=nx:=⟨_,rfl⟩;rw[hL]at hlt tM bO hI;rw[iw]at hI;have HL:=ag hL;have mG:=ag iw;have jp:nx.length=k*H:=by rw[<-iw,(O5 (aF X) k).nl,wY.out]
   have zDU:nx.length<=1100000:=by rw[jp];exact cY (oU (by omega:k<=4000) hHl) (by decide)
   clear hL iw jp;have G8:L.getD k fT=Oh (aF X) k:=by rw[<-HL.out];rfl
   obtain⟨gv,cv,m,rfl,hcell,tN,pS,wm⟩:=hI.at hlt;rw[G8]at pS wm;obtain⟨sk,YB⟩:∃sk,Oh (aF X) k=sk:=⟨_,rfl⟩;rw[YB]at pS wm;have I5:=ag YB;obtain⟨gk,XM⟩:∃gk,gs k=gk:=⟨_,rfl⟩;rw[XM]at hcell tN;have UM:=ag XM;have XH:((k:Int)==0)=(k==0):=by rw[FC,beq_iff_eq,beq_iff_eq];omega
   obtain⟨f0,pe⟩:∃f0:Bool,(k==0)=f0:=⟨_,rfl⟩;rw[pe]at XH;have UG:=ag pe;have eC:(0:Int)<=(k:Int):=by omega
   have dg:(k:Int)<(L.length:Int):=by omega
   have HIM:=ag pS;have HSU:=ag wm;have l5:=ag hI;have PW:=ag G8;clear G8 YB pS wm XM pe hI;have zzX:=ag hcell;have zz3:=ag tN;clear hcell tN;obtain⟨⟨a3,c3⟩,eP⟩:=dQ (l5.out.au.own 2 (by omega));rw[show mX (aF X) nx k k 2=rG (aF X) false k from rfl,Lg]at eP;have UE:=ag eP;have Cd:∀s:qW wr,s.W.cell? ⟨db,3,za⟩=zb (.slice a3 k c3):=λs=>by have:=(cE (l5.out.call s.h).AL).2.2.2.1;rw[UE.out]at this;exact this
   have Cx:∀s:qW wr,s.W.cell? ⟨Wd.heap.size,0,za⟩=zb (.slice no Ns.length nc)/\s.W.cell? ⟨Wd.heap.size,1,za⟩=zb (.slice bo X.length bc):=λs=>dV (((l5.out.call s.h).bg.block _ zq).trans F2.out)
   have Up:=λs=>(Cx s).1
   have Uq:=λs=>(Cx s).2
   have hcell:=zzX.out;have Cs:∀s:qW wr,s.W.cell? ⟨gv,k,za⟩=zb (zd (zb ⟨gk,0,za⟩) Ns.length Ns.length):=λs=>(s.h.cell (p:=⟨gv,k,za⟩) (zpN hcell)).trans hcell
   obtain⟨Zt,YU⟩:∃ya,yV (aF X) f0 sk false=ya:=⟨_,rfl⟩;have Ca:∀W,zf wr.heap.size wr W->Calls prog 56 #[zi #[.slice no Ns.length nc,.slice bo X.length bc],.bool f0,zd (zb ⟨gk,0,za⟩) Ns.length Ns.length,.bool false] W λe W'=>∃u,e=.returned u/\u=ze .i64 Zt/\zf W.heap.size W W':=λW h=>(zhI Wc W _ _ Ns X f0 false gk Ns.length m sk (qZ.out.below (l5.out.call h).Mu) (zz3.out.below h) HIM.out).mono λe W' ⟨h1,h2⟩=>⟨_,h1,by rw[YU],h2⟩
   have zAj:=ag YU;have Dy:=ag Ca;clear Cx eP hcell Ca YU
   go_upto_region 12 with fail
   refine zeH 9 11 (λw'=>∃s:qW wr,w'=s.W) fF ⟨⟨wr.drew,⟨rfl,rfl,rfl,aq _,λ_ _=>rfl⟩⟩,rfl⟩ (by kernel_rfl) ?_;intro os bN;simp only[mz,vk]at bN;subst bN
   repeat (go_big_quiet_step (fail))
   refine wpQuiet_nil ?_;rintro w' ⟨⟨Wb2,Rh⟩,rfl⟩ r hr;simp only[Dp,Ao]at hr;subst hr;clear Cd Up Uq Cs;refine Te rfl (λK5 bM=>?_);refine zj7 56 #[.tmp 49,.tmp 51,.tmp 55,.const (.bool false)] #[89,4,93,4] (by rfl) #[zi #[.slice no Ns.length nc,.slice bo X.length bc],.bool f0,zd (zb ⟨gk,0,za⟩) Ns.length Ns.length,.bool false] (by simp[Act.eval]) _ (znF _ _) (Dy.out _ Rh) ?_;rintro u Wk2 ⟨rfl,bu⟩;have M6:=aH Rh Rh.size bu;refine bM _ _ (λ_=>⟨⟨_,M6⟩,rfl⟩) ?_;clear bM K5 bu Dy;simp only[Act.put,vl,yF,yB];refine Te rfl (λK5 bM=>?_)
   first|go_big_move|go_big_op
   refine bM _ _ (λ_=>⟨⟨_,M6.alloc M6.size _⟩,rfl⟩) ?_;clear bM K5;refine Td _ _ _ _ (aq _) (λ_ _ h=>h) ?_;have WQ:=l5.out.call M6;have gy:=WQ.size;have UR:=ag WQ;clear WQ
   go_wp2_with (at_builtin;refine kJ UR.out.au _ rfl rfl (.tmp 48) (.tmp 57) rfl 2 (by omega) (rG (aF X) false k) rfl k (Lg _ _ _) (by exact UE.out.symm) Zt rfl (by omega) gy ?_;intro g2 d2 V2 hF2 dE;obtain⟨dr,J2⟩:=UR.out.field (Below.refl _ _) (i:=2) (off:=3) (by omega) rfl hF2 dE;have y2:=(cE dr).2.2.2.1;rw[UE.out]at y2;have oA:=aM _ _ 3 _ _ dr;clear hF2 dE dr)
   rw[qc];rw[show bG (mX (aF X) nx k k) 2 (rG (aF X) false k++[Zt])=mX (aF X) nx (k+1) k by unfold mX;rw[zvV,zl7 (aF X) false k,UG.out,I5.out,zAj.out]]at J2;generalize hU2:V2.setCell ⟨db,3,za⟩ (zd (zb ⟨g2,0,za⟩) (k+1) d2)=U2 at *;have nz:=ag J2;obtain⟨gv',cv',m2,eg,hcell,tN,pS,wm⟩:=J2.at hlt;cases eg;rw[PW.out,I5.out]at pS wm;rw[UM.out]at hcell tN;have zzY:=ag hcell;have zz4:=ag tN;have zz0:=ag pS;clear hU2 J2 y2 oA UR gy M6 Rh pS wm hcell tN;obtain⟨⟨a4,c4⟩,fi⟩:=dQ (nz.out.au.own 3 (by omega));rw[show mX (aF X) nx (k+1) k 3=rG (aF X) true k from rfl,Lg]at fi;have UF:=ag fi;have Cd:∀s:qW U2,s.W.cell? ⟨db,4,za⟩=zb (.slice a4 k c4):=λs=>by have:=(cE (nz.out.call s.h).AL).2.2.2.2;rw[UF.out]at this;exact this
   have Cx:∀s:qW U2,s.W.cell? ⟨Wd.heap.size,0,za⟩=zb (.slice no Ns.length nc)/\s.W.cell? ⟨Wd.heap.size,1,za⟩=zb (.slice bo X.length bc):=λs=>dV (((nz.out.call s.h).bg.block _ zq).trans F2.out)
   have Up:=λs=>(Cx s).1
   have Uq:=λs=>(Cx s).2
   have hcell:=zzY.out;have Cs:∀s:qW U2,s.W.cell? ⟨gv,k,za⟩=zb (zd (zb ⟨gk,0,za⟩) Ns.length Ns.length):=λs=>(s.h.cell (p:=⟨gv,k,za⟩) (zpN hcell)).trans hcell
   obtain⟨Zu,YV⟩:∃ya,yV (aF X) f0 sk true=ya:=⟨_,rfl⟩;have Ca:∀W,zf U2.heap.size U2 W->Calls prog 56 #[zi #[.slice no Ns.length nc,.slice bo X.length bc],.bool f0,zd (zb ⟨gk,0,za⟩) Ns.length Ns.length,.bool true] W λe W'=>∃u,e=.returned u/\u=ze .i64 Zu/\zf W.heap.size W W':=λW h=>(zhI Wc W _ _ Ns X f0 true gk Ns.length m2 sk (qZ.out.below (nz.out.call h).Mu) (zz4.out.below h) zz0.out).mono λe W' ⟨h1,h2⟩=>⟨_,h1,by rw[YV],h2⟩
   have zAk:=ag YV;have Dy:=ag Ca;clear Cx fi hcell Ca YV
   go_upto_region 13 with fail
   refine zeH 9 11 (λw'=>∃s:qW U2,w'=s.W) fF ⟨⟨U2.drew,⟨rfl,rfl,rfl,aq _,λ_ _=>rfl⟩⟩,rfl⟩ (by kernel_rfl) ?_;intro os bN;simp only[mz,vk]at bN;subst bN
   repeat (go_big_quiet_step (fail))
   refine wpQuiet_nil ?_;rintro w' ⟨⟨Wb3,Ri⟩,rfl⟩ r hr;simp only[Dp,Ao]at hr;subst hr;clear Cd Up Uq Cs;refine Te rfl (λK5 bM=>?_);refine zj7 56 #[.tmp 62,.tmp 64,.tmp 68,.const (.bool true)] #[89,4,93,4] (by rfl) #[zi #[.slice no Ns.length nc,.slice bo X.length bc],.bool f0,zd (zb ⟨gk,0,za⟩) Ns.length Ns.length,.bool true] (by simp[Act.eval]) _ (znF _ _) (Dy.out _ Ri) ?_;rintro u Wk3 ⟨rfl,bQ⟩;have M7:=aH Ri Ri.size bQ;refine bM _ _ (λ_=>⟨⟨_,M7⟩,rfl⟩) ?_;clear bM K5 bQ Dy;simp only[Act.put,vl,yF,yB];refine Te rfl (λK5 bM=>?_)
   first|go_big_move|go_big_op
   refine bM _ _ (λ_=>⟨⟨_,M7.alloc M7.size _⟩,rfl⟩) ?_;clear bM K5;refine Td _ _ _ _ (aq _) (λ_ _ h=>h) ?_;have WR:=nz.out.call M7;have Sm:=WR.size;have UT:=ag WR;clear WR
   go_wp2_with (at_builtin;refine kJ UT.out.au _ rfl rfl (.tmp 61) (.tmp 70) rfl 3 (by omega) (rG (aF X) true k) rfl k (Lg _ _ _) (by exact UF.out.symm) Zu rfl (by omega) Sm ?_;intro g3 d3 V3 hF3 hg3;obtain⟨VW,J3⟩:=UT.out.field (Below.refl _ _) (i:=3) (off:=4) (by omega) rfl hF3 hg3;have y3:=(cE VW).2.2.2.2;rw[UF.out]at y3;have fz3:=aM _ _ 4 _ _ VW;clear hF3 hg3 VW)
   rw[qc];rw[show bG (mX (aF X) nx (k+1) k) 3 (rG (aF X) true k++[Zu])=mX (aF X) nx (k+1) (k+1) by unfold mX;rw[zvW,zl7 (aF X) true k,UG.out,I5.out,zAk.out]]at J3;generalize hU3:V3.setCell ⟨db,4,za⟩ (zd (zb ⟨g3,0,za⟩) (k+1) d3)=U3 at *;have jS:=ag J3;obtain⟨gv',cv',m3,eg,hcell,tN,pS,wm⟩:=J3.at hlt;cases eg;rw[PW.out,I5.out]at pS wm;rw[UM.out]at hcell tN;have zCC:=ag hcell;have zCE:=ag tN;have zCD:=ag pS;clear hU3 J3 y3 fz3 UT Sm M7 Ri pS wm hcell tN;have hrun:dS (aF X) k=(L,nx):=Prod.ext HL.out mG.out;have zxF:=ag hrun;have zzD:(upd (upd v 2 (zd (zb ⟨g2,0,za⟩) (k+1) d2)) 3 (zd (zb ⟨g3,0,za⟩) (k+1) d3)) 4=.slice a1 H k1:=by rw[eF _ _ (by omega),eF _ _ (by omega)];exact th.out
   have zAe:=ag zzD;clear hrun zzD
   go_wp2_with fail
   go_loopw [10,75] (λsv mi W=>∃(j:Nat) (gs':Nat->Nat) (v':Nat->zj),j<=H/\mi=ze .i64 j/\v' 4=.slice a1 H k1/\gs' k=gk/\lE We gt db W X Ns.length H v' (mX (aF X) (qT (aF X) f0 sk (L,nx) j).2 (k+1) (k+1)) sv gs' (qT (aF X) f0 sk (L,nx) j).1) (λ_ i _=>H-(intOf i).toNat)
   case atStart=>exact⟨0,gs,_,dz _,rfl,zAe.out,UM.out,jS.out⟩
   case round=>
    obtain⟨j,gs',v',hj,rfl,zzC,zyR,hI⟩:=hrel;have P6:=ag zzC;have UN:=ag zyR;clear zzC zyR;obtain⟨⟨P,q⟩,hP⟩:∃Pq,qT (aF X) f0 sk (L,nx) j=Pq:=⟨_,rfl⟩;rw[hP]at hI;have U9:=ag hP;have hPl:L.length<=P.length:=by have:=zn8 (aF X) f0 sk (L,nx) j;rw[hP]at this;exact this
    have hPu:P.length<=L.length+j:=by have:=zlI (aF X) f0 sk (L,nx) j (by rw[wY.out];exact hj);rw[hP]at this;exact this
    have xI:P.getD k fT=sk:=by have:=zn7 (aF X) f0 sk (L,nx) j (i:=k) hlt;rw[hP]at this;rw[<-I5.out,<-PW.out];exact this
    have zyl:k<P.length:=by omega
    by_cases mc:j<H
    ·have hql:q.length<=1100000:=by
      have:=(BO.part (bs:=aF X) (fst:=f0) (S:=sk) (st:=(L,nx)) (n:=k*H) (by have:=O5 (aF X) k;rw[zxF.out,wY.out]at this;exact this) j (by rw[wY.out];exact hj)).nl;rw[hP]at this;have hq:q.length=k*H+j:=this;have EA:k*H<=3999*256:=oU (by omega) hHl;omega
     have hh:=zvp (aF X) (m:=j) (by rw[wY.out];exact mc);obtain⟨gh,kh,My,hgh,-,zyC⟩:=C7 (hI.au.own 4 (by omega)) (by show 0<(dy (iA (aF X))).length;rw[gV,wY.out];omega);have c4:=zyC j (by show j<(dy (iA (aF X))).length;rw[gV,wY.out];exact mc);rw[show mX (aF X) q (k+1) (k+1) 4=dy (iA (aF X)) from rfl,A2]at c4;rw[P6.out,show (mX (aF X) q (k+1) (k+1) 4).length=(dy (iA (aF X))).length from rfl,gV,wY.out]at My;cases My;obtain⟨h,uJ⟩:∃h,(iA (aF X)).getD j 0=h:=⟨_,rfl⟩;rw[uJ]at c4 hh;have Bz:=ag uJ;obtain⟨V9,BU,rD,eg,hcell,tN,pS,wm⟩:=hI.at zyl;subst eg;rw[xI]at pS wm;rw[UN.out]at hcell tN;obtain⟨x0,x1⟩:=dV ((hI.bg.block _ zq).trans F2.out);have zDL:(0:Int)<=(j:Int):=by omega
     have zDM:(j:Int)<(H:Int):=by omega
     have zDW:(k:Int)<(P.length:Int):=by omega
     have Kk:=zu7 hh;have ho:=zvB pS qZ.out.cK f0 h;have cA:=λnq=>zo3 Wc (wr.drewN nq) (.slice no Ns.length nc) (.slice bo X.length bc) Ns X f0 gk Ns.length h rD (qZ.out.below (hI.call (show zf wr.heap.size wr (wr.drewN nq) from⟨rfl,rfl,rfl,aq _,λ_ _=>rfl⟩)).Mu) (tN.below ⟨rfl,rfl,rfl,aq _,λ_ _=>rfl⟩) hh
     have eT:=ag hI;have HO:=ag ho;have Dy:=ag cA;clear uJ zyC pS wm tN ho cA hI hP
     go_upto_region 17 with fail
     refine Ie 9 (λw'=>∃n,w'=wr.drewN n) fF ⟨1,rfl⟩ (by decide) (by kernel_rfl) ?_;intro os bN;simp only[mz,vk]at bN;subst bN
     repeat (go_big_quiet_step (fail))
     refine wpQuiet_nil ?_;rintro w' ⟨nq,rfl⟩ r hr;simp only[Dp,Ao]at hr;subst hr
     go_wp2_with fail
     refine(Dy.out nq).mono ?_;rintro e Wa ⟨go,rfl,hgo,Kb,fW⟩;clear Dy;have zyv:zf wr.heap.size wr Wa:=⟨fW.os,fW.tape,fW.output,fW.size,fW.block⟩;have HIa:=ag (eT.out.call zyv);have HMO:=ag Kb;have zBA:gt<=go:=by have:=eT.out.size;have zDr:wr.heap.size<=go:=hgo;omega
     obtain⟨S',JJ⟩:∃S',lh (aF X) f0 sk h=S':=⟨_,rfl⟩;have Yy:=zrM X f0 sk h;rw[JJ]at Yy;have Vb:=ag JJ;have HSS:=ag Yy;have HOM:Hid (vB X Ns.length (qa X f0 rD h X.length) S'):=by have:=HO.out;rw[JJ]at this;exact this
     generalize hom:qa X f0 rD h X.length=om at *;have hPP:P.length<=5000:=by omega
     clear hom fW zyv Kb hgo JJ Yy x0 x1 hcell c4 HO
     go_wp2_with fail
     go_loopw [15,16] (λtv ji W=>∃i:Nat,1<=i/\i<=P.length/\ji=ze .i64 i/\tv=ze .i64 (-1)/\lE We gt db W X Ns.length H v' (mX (aF X) q (k+1) (k+1)) (zd (zb ⟨V9,0,za⟩) P.length BU) gs' P/\gZ W go Ns.length om/\∀i',1<=i'->i'<i->P.getD i' fT≠S') (λ_ i _=>P.length-(intOf i).toNat)
     case atStart=>exact⟨1,aq _,by omega,rfl,rfl,HIa.out,HMO.out,λi' h1 h2=>by omega⟩
     case round=>
      obtain⟨i,dg,pg,rfl,rfl,hI,hm,hno⟩:=hrel;have yN:=ag hno;clear hno
      by_cases J0:i<P.length
      ·obtain⟨gv3,Mw,mi,eg,JS,hmi,pS,Sl⟩:=hI.at J0;cases eg;have cs:=zqC wr Ns.length (gs' i) go Ns.length Ns.length mi om hmi hm jo;have zzs:=zti pS HOM.out qZ.out.cK Sl HSS.out;have HSA:=ag zzs;have FP:=ag hI;have L8:=ag hm;have zDx:(0:Int)<=(i:Int):=by omega
       have zDy:(i:Int)<(P.length:Int):=by omega
       clear hI hm zzs pS Sl hmi
       go_wp2_with fail
       refine cs.mono ?_;rintro e Ws ⟨⟨b,rfl,hb⟩,nG⟩;have Dz:=ag (FP.out.call nG);have DC:=ag (L8.out.below nG);have yJ:=ag hb;clear cs nG hb;cases b
       ·go_wp2
        go_roundw
        case rel=>exact⟨i+1,by omega,by omega,by go_num,rfl,Dz.out,DC.out,λi' h1 h2=>by
         rcases iX i' i with h3|h3
         ·exact yN.out i' h1 h3
         ·obtain rfl:i'=i:=by omega
          exact λe=>Bool.false_ne_true (yJ.out.2 (HSA.out.2 e))⟩
        case measure=>simp[intOf];omega
       ·have XS:=HSA.out.1 (yJ.out.1 rfl);have iw:=zuA dg J0 XS yN.out;rw[<-Vb.out]at iw;have EL:=zu4 (bs:=aF X) (fst:=f0) (S:=sk) (nx:=q) iw J0;have G4:qT (aF X) f0 sk (L,nx) (j+1)=(P,q++[i]):=by rw[Ts _ _ _ _ (by rw[wY.out];exact mc),U9.out,Bz.out];exact EL
        have FV:=ag G4;obtain⟨⟨an,kn⟩,en⟩:=dQ (Dz.out.au.own 1 (by omega));rw[show mX (aF X) q (k+1) (k+1) 1=dy q from rfl,gV]at en;have LQ:=ag en;have Xz:=(cE Dz.out.AL).2.2.1;rw[en]at Xz;have hsz:=Dz.out.size;have zDz:decide ((i:Int)<0)=false:=decide_eq_false (by omega);clear XS iw EL G4 en
        go_upto_region 28 with (at_builtin;refine kJ Dz.out.au _ rfl rfl (.tmp 111) (.tmp 113) rfl 1 (by omega) (dy q) rfl q.length (gV _) (by exact LQ.out.symm) (i:Int) rfl (by omega) hsz ?_;intro g5 c5 V5 zc kV;obtain⟨Gc,J5⟩:=Dz.out.field (Below.refl _ _) (i:=1) (off:=2) (by omega) rfl zc kV;have y5:=(cE Gc).2.2.1;rw[LQ.out]at y5;have D8:=aM _ _ 2 _ _ Gc;clear zc kV Gc)
        rw[show bG (mX (aF X) q (k+1) (k+1)) 1 (dy q++[(i:Int)])=mX (aF X) (q++[i]) (k+1) (k+1) by unfold mX;rw[zvv,show dy q++[(i:Int)]=dy (q++[i]) by simp[dy]]]at J5;generalize Xg:V5.setCell ⟨db,2,za⟩ _=U5 at *;have zH:(upd v' 1 (zd (zb ⟨g5,0,za⟩) (q.length+1) c5)) 4=zd (zb ⟨gh,0,za⟩) H k1:=by rw[eF _ _ (by omega)];exact P6.out
        generalize upd v' 1 (zd (zb ⟨g5,0,za⟩) (q.length+1) c5)=v5 at *;have vv:=ag J5;have F0:=ag zH;clear J5 y5 D8 Xg zH;go_wp2
        go_roundw
        case rel=>exact⟨j+1,gs',v5,by omega,by go_num,F0.out,UN.out,by rw[FV.out];exact vv.out⟩
        case measure=>simp[intOf];omega
      ·have iw:=zsY (L:=P) (S:=S') (by omega) (λi' h1 h2=>yN.out i' h1 (by omega));rw[<-Vb.out]at iw;have EL:=zu5 (bs:=aF X) (fst:=f0) (S:=sk) (nx:=q) iw;have G4:qT (aF X) f0 sk (L,nx) (j+1)=(P++[S'],q++[P.length]):=by rw[Ts _ _ _ _ (by rw[wY.out];exact mc),U9.out,Bz.out,<-Vb.out];exact EL
       have FV:=ag G4;have Dz:=ag hI;have DC:=ag hm;have hsz:=hI.size;have zzl:=hI.out;obtain⟨iS,J1,Km,Kn,Ko⟩:=info_parts Tryz.zCj;have hxi:decide ((i:Int)<(P.length:Int))=false:=decide_eq_false (by omega);have zzt:∀(V:zg) (g c:Nat),V.ownsRow (gt+1) 93 1 (zd (zb ⟨g,0,za⟩) (P.length+1) c) (P.length+1) (yA gs' Ns.length P.length++[zd (zb ⟨go,0,za⟩) Ns.length Ns.length])->wr.grownBy V (zb V9)->∃QR:Nat->Nat,QR k=gk/\lE We gt db V X Ns.length H v' (mX (aF X) q (k+1) (k+1)) (zd (zb ⟨g,0,za⟩) (P.length+1) c) QR (P++[S']):=λV g c h1 h2=>⟨_,by rw[ab (by omega)];exact UN.out,Dz.out.set (Below.refl _ _) zBA DC.out HOM.out HSS.out h1 h2⟩
       have lH:=ag zzt;clear iw EL G4 hI hm zzt
       go_upto_region 27 with (at_builtin;refine CL wr _ rfl rfl (.tmp 106) (.tmp 108) 94 rfl (gt+1) 93 iS (zd za 0 0) 24 underlying94 J1 Km Kn Ko rfl V9 BU P.length (yA gs' Ns.length P.length) (zd (zb ⟨go,0,za⟩) Ns.length Ns.length) rfl zzl rfl rfl (by omega) (by omega) hsz ?_;intro g6 c6 V6 hO6 XK zBe)
       obtain⟨QR,XL,J7⟩:=lH.out V6 g6 c6 hO6 XK;have HI7:=ag J7;have HG7:=ag XL;obtain⟨⟨an,kn⟩,en⟩:=dQ (J7.au.own 1 (by omega));rw[show mX (aF X) q (k+1) (k+1) 1=dy q from rfl,gV]at en;have LQ:=ag en;have Xz:=(cE J7.AL).2.2.1;rw[en]at Xz;have zCc:=J7.size;clear hO6 XK zBe J7 XL en zzl
       go_upto_region 28 with (at_builtin;refine kJ HI7.out.au _ rfl rfl (.tmp 111) (.tmp 113) rfl 1 (by omega) (dy q) rfl q.length (gV _) (by exact LQ.out.symm) (P.length:Int) rfl (by omega) zCc ?_;intro g5 c5 V5 zc kV;obtain⟨Gc,J5⟩:=HI7.out.field (Below.refl _ _) (i:=1) (off:=2) (by omega) rfl zc kV;have y5:=(cE Gc).2.2.1;rw[LQ.out]at y5;have D8:=aM _ _ 2 _ _ Gc;clear zc kV Gc)
       rw[show bG (mX (aF X) q (k+1) (k+1)) 1 (dy q++[(P.length:Int)])=mX (aF X) (q++[P.length]) (k+1) (k+1) by unfold mX;rw[zvv,show dy q++[(P.length:Int)]=dy (q++[P.length]) by simp[dy]]]at J5;generalize Xg:V5.setCell ⟨db,2,za⟩ _=U5 at *;have zH:(upd v' 1 (zd (zb ⟨g5,0,za⟩) (q.length+1) c5)) 4=zd (zb ⟨gh,0,za⟩) H k1:=by rw[eF _ _ (by omega)];exact P6.out
       generalize upd v' 1 (zd (zb ⟨g5,0,za⟩) (q.length+1) c5)=v5 at *;have vv:=ag J5;have F0:=ag zH;clear J5 y5 D8 Xg zH;go_wp2
       go_roundw
       case rel=>exact⟨j+1,QR,v5,by omega,by go_num,F0.out,HG7.out,by rw[FV.out];exact vv.out⟩
       case measure=>simp[intOf];omega
    ·have qy:j=H:=by omega
     have hrk:dS (aF X) (k+1)=(P,q):=by
      rw[TQ,zxF.out,UG.out,wY.out];rw[show (L,nx).1.getD k fT=sk from PW.out.trans I5.out,<-qy];exact U9.out
     have Mf:=ag hrk;have fP:=aH Bw.out Bw.out.size hI.Mu;have Dw:=ag fP;obtain⟨gv3,Mw,m3,eg,-,-,-,-⟩:=hI.at zyl;subst eg;have xz:=(hI.bg.block _ hwe).trans Vh.out;obtain⟨z0,z1,z2,z3,z4⟩:=Tl xz;obtain⟨f0',f1',f2',f3',f4'⟩:=TA xz;have HI8:=ag hI;have hjx:¬(j:Int)<(H:Int):=by omega
     clear hrk fP hI xz hP
     by_cases Ep:most<P.length
     ·have aO:decide ((most:Int)<(P.length:Int))=true:=decide_eq_true (by omega);have aB:(most:Int)<(P.length:Int):=by omega
      go_wp2;refine aW (v:=.tuple #[zi #[zd za 0 0,ze .i64 0,zd za 0 0,zd za 0 0,zd za 0 0],ze .i64 3]) (by simp[results,results41,go_sem,z0,z1,z2,z3,z4]) rfl ?_;refine hR ⟨k,?_⟩ _ (Ig Dw.out (aq _) _ _ _ _ _);rw[<-Uu.out];exact⟨UO.out,by rw[HL.out];exact hlt,by rw[Mf.out];exact Ep⟩
     ·have aO:decide ((most:Int)<(P.length:Int))=false:=decide_eq_false (by omega);have aB:¬(most:Int)<(P.length:Int):=by omega
      go_wp2
      go_roundw
      case rel=>
       refine⟨k+1,gs',v',by go_num,?_,?_,λi h=>?_,P6.out,?_⟩
       ·rw[Mf.out];show k+1<=P.length;omega
       ·rw[Mf.out];show P.length<=most;omega
       ·rcases iX i k with h3|h3
        ·exact UO.out i h3
        ·obtain rfl:i=k:=by omega
         exact⟨by rw[HL.out];exact hlt,by rw[Mf.out];show P.length<=most;omega⟩
       ·rw[Mf.out];exact HI8.out
      case measure=>simp[intOf];omega
  ·have cC:(dS (aF X) k).1.length=k:=by omega
   have WE:yG (aF X) most k:=⟨cC,UO.out⟩;obtain⟨tQ,xS⟩:=zst WE;have hD:dP (gt+1) wr (v 0) (v 1) (v 2) (v 3) (ie (aF X) k):=by
    have o0:=hI.au.own 0 (by omega);have o1:=hI.au.own 1 (by omega);have o2:=hI.au.own 2 (by omega);have o3:=hI.au.own 3 (by omega);have j7:(dy (dS (aF X) k).2).length<=9223372036854775807:=by
     rw[gV,(O5 (aF X) k).nl];have:k*(iA (aF X)).length<=4000*256:=oU (by omega) (zmQ _);omega
    refine⟨bX.at o0 (by show (rb (aF X) 256).length<=_;rw[Lb];omega),bX.at o1 j7,?_,?_⟩
    ·rw[tQ];exact bX.at o2 (by show (rG (aF X) false k).length<=_;rw[Lg];omega)
    ·rw[xS];exact bX.at o3 (by show (rG (aF X) true k).length<=_;rw[Lg];omega)
   have cm:=zig (v 0) (v 1) (v 2) (v 3) (ie (aF X) k) wr hD;rw[show (ie (aF X) k).width=((iA (aF X)).length:Int) from rfl,wY.out]at cm;obtain⟨y0,y1,y2,y3,y4⟩:=cE hI.AL;have xz:=(hI.bg.block _ hwe).trans Vh.out;have HXZ:=ag xz;have fP:=aH Bw.out Bw.out.size hI.Mu;have Dw:=ag fP;have Av:=ag WE;have vY:decide ((k:Int)<((dS (aF X) k).1.length:Int))=false:=decide_eq_false (by omega);have zDC:¬(k:Int)<((dS (aF X) k).1.length:Int):=by omega
   obtain⟨gv0,cv0,rfl⟩:=hI.form;generalize Q4:(dS (aF X) k).1.length=LL at *;clear hD tQ xS WE hI fP xz cC Q4
   go_upto_region 31 with fail
   go_wp2_with fail
   refine cm.mono ?_;rintro e Wm ⟨gm,vm,rfl,RE,Jx,GD⟩;have xm:=(GD.block _ (ay HXZ.out)).trans HXZ.out;obtain⟨z0,z1,z2,z3,z4⟩:=Tl xm;obtain⟨f0',f1',f2',f3',f4'⟩:=TA xm;obtain⟨⟨b0,d0⟩,Zm⟩:=dQ (Jx.own 0 (by omega));obtain⟨⟨b1,d1⟩,Zo⟩:=dQ (Jx.own 1 (by omega));obtain⟨⟨b2,d2⟩,Zp⟩:=dQ (Jx.own 2 (by omega));obtain⟨⟨b3,d3⟩,Zq⟩:=dQ (Jx.own 3 (by omega));have zyr:vg w 0 (sD (ie (aF X) k)) (pY (ie (aF X) k)) (.returned (.tuple #[zi (iF (sD (ie (aF X) k)) vm),ze .i64 0])) (ff Wm w.heap.size (vm 0) (ze .i64 (sD (ie (aF X) k))) (vm 1) (vm 2) (vm 3)):=
    ⟨gm,vm,rfl,by have:=Dw.out.size;omega,Jx.ff (by have:=Dw.out.size;omega) _ _ _ _ _,Ig (aH Dw.out Dw.out.size GD) (aq _) _ _ _ _ _⟩
   have zzV:=ag zyr;generalize hmw:sD (ie (aF X) k)=mw at *;generalize (pY (ie (aF X) k) 0).length=n0 at *;generalize (pY (ie (aF X) k) 1).length=n1 at *;generalize (pY (ie (aF X) k) 2).length=n2 at *;generalize (pY (ie (aF X) k) 3).length=n3 at *;have qD:iF mw vm=#[.slice b0 n0 d0,ze .i64 mw,.slice b1 n1 d1,.slice b2 n2 d2,.slice b3 n3 d3]:=by unfold iF;rw[Zm,Zo,Zp,Zq]
   rw[qD];have HRD:=ag qD;have zAf:=ag Zm;have zAg:=ag Zo;have zAh:=ag Zp;have zAi:=ag Zq;have HMW:=ag hmw;clear zyr xm Jx GD cm y0 y1 y2 y3 y4 qD Zm Zo Zp Zq hmw;go_wp2;refine aW (v:=.tuple #[zi #[.slice b0 n0 d0,ze .i64 mw,.slice b1 n1 d1,.slice b2 n2 d2,.slice b3 n3 d3],ze .i64 0]) (by simp[results,results41,go_sem,z0,z1,z2,z3,z4]) rfl ?_;refine hE k (by rw[<-Uu.out];exact Av.out) _ _ ?_;rw[<-Uu.out,HMW.out,<-HRD.out,<-zAf.out,<-zAg.out,<-zAh.out,<-zAi.out];exact zzV.out
end Go.Proofs.YtfajjdgkiilhfaaGreatDoor
