import Derived.Test.YthddplbodacjgaaGreatDoorC46
namespace Go.Proofs.YthddplbodacjgaaGreatDoor
set_option maxHeartbeats 8000000
set_option maxRecDepth 100000
open Go.RowKit
attribute [local go_sem ↓] Go.wp_at_zero Go.wp_at_succ
variable {Wb W:World}{gt db N:Nat}{X:Xs}{width:Int}{v:Nat -> Value}{ls:Nat -> List Int}{sv:Value}{gs:Nat -> Nat}{L:List St}
noncomputable def lsK (bs:List BrG) (nx:List Nat) (t e:Nat):Nat->List Int:=lsC (clsC bs 256) (zav nx) (tagL bs false t) (tagL bs true e) (zav (hdsG bs))
theorem ze0(bs:List BrG):btL bs 256 0=clsC bs 256/\btL bs 256 1=zav (hdsG bs):=⟨rfl,rfl⟩
theorem Tryz.infoBoolsC:(Tryz.prog.info? 49).map (fun i=>(i.zero,i.size,i.bytes))=some (some (.slice none 0 0),1,24):=by kernel_rfl
theorem CmI.form(h:CmI Wb gt db W X N width v ls sv gs L):∃(ga:Option Addr) (ca:Nat),sv=.slice ga L.length ca:=by
 rcases h.out.2 with ⟨e,h0⟩|⟨g,cap,_,e,_⟩
 ·exact⟨none,0,by rw[h0];exact e⟩
 ·exact⟨_,_,e⟩
structure ExtC(X:World) where
 W:World
 h:Below X.heap.size X W
instance extCNonempty (X:World):Nonempty (ExtC X):=⟨⟨X,Below.refl _ _⟩⟩
theorem zl5(xs:Array Value)(w:World):(callFunc 18 xs).run Tryz.prog w=.ok (.enter 18 xs) w:=by kernel_rfl
theorem zn6{w:World}{g o:Nat}{v:Value}(h:w.cell? ⟨g,o,none⟩=some v):g<w.heap.size:=by
 rcases zuC g w.heap.size with q|q
 ·exact q
 ·have:w.heap[g]?=none:=zto q;simp[World.cell?,this] at h
theorem CmI.bg'(h:CmI Wb gt db W X N width v ls sv gs L):Below Wb.heap.size Wb W:=by rw[h.top];exact h.bg
theorem zet(va:Value)(rs:List za0)(most:Nat)(w:World)(hs:zaW 0 w va rs)(hok:WOK rs)(h1:1<=most)(h2:most<=4000)(hl:zb5 rs=true)(R:Ending->World->Prop)
  (hR:(∃k0,RefG (bsR 0 rs) most k0)->∀W,Below w.heap.size w W->R (.returned (.tuple #[.agg zbf,.int .i64 3])) W)
  (hE:∀K,EndG (bsR 0 rs) most K->∀e W,zcA w 0 (minW (dfaG (bsR 0 rs) K)) (minL (dfaG (bsR 0 rs) K)) e W->R e W):
  Calls Tryz.prog 5 #[va,.int .i64 most] w R:=by
 have hb:btw most 1 4000=true:=zdb.2 ⟨by omega,by omega⟩;obtain⟨ib,hib,hb0,hb1,hb2⟩:=info_parts Tryz.infoBoolE;have hmix:Tryz.prog.follows .mixedOrders=true:=by kernel_rfl
 obtain⟨W0,hW0⟩:∃W0,w.alloc (.cells zbf 26)=W0:=⟨_,rfl⟩;have b0:Below w.heap.size w W0:=by rw[<-hW0];exact(Below.refl _ _).alloc (zuz _) _
 have x0:W0.heap[w.heap.size]?=some (.cells zbf 26 (0,0)):=by rw[<-hW0];exact zuR _ _
 have cb:=zaw most 1 4000 W0;rw[hb] at cb;have cl:=zgN va rs W0 (hs.below b0) hok.sm;rw[hl] at cl;have cw:=fun W (h:Below W0.heap.size W0 W)=>zna va rs W (hs.below (zaa b0 b0.size h)) hok
 unfold zbf at hW0;have HW0:=hdn hW0;have HB:=hdn b0;have HX:=hdn x0;have HCW:=hdn cw;clear hb x0 b0 hW0 hs hok hl cw
 go_enter Tryz.func5,Tryz.ntmps5
 go_upto_region 1 with fail
 rw[HW0.out];clear HW0
 go_wp2_with fail
 refine cb.mono ?_;rintro e W1 ⟨rfl,hW1⟩;subst W1;clear cb
 go_wp2_with fail
 refine cl.mono ?_;rintro e Wc ⟨rfl,b2⟩;have cw:=HCW.out Wc b2;have xc:=(b2.block _ (zae HX.out)).trans HX.out;have hbc:=zaa HB.out HB.out.size b2;have HXC:=hdn xc;have HBC:=hdn hbc;clear cl HCW xc hbc b2
 go_wp2_with fail
 refine cw.mono ?_;rintro e Wd ⟨nv,bv,Ns,X,rfl,hsp,hbs,hbd⟩;obtain⟨no,nc,rfl,-⟩:=hsp.nx.at_;obtain⟨bo,bc,rfl,-⟩:=hsp.bx.at_;obtain⟨We,hWe⟩:∃We,Wd.alloc (.cells #[.slice no Ns.length nc,.slice bo X.length bc] 45)=We:=⟨_,rfl⟩;have be:Below Wd.heap.size Wd We:=by rw[<-hWe];exact(Below.refl _ _).alloc (zuz _) _
 have xe:We.heap[Wd.heap.size]?=some (.cells #[.slice no Ns.length nc,.slice bo X.length bc] 45 (0,0)):=by rw[<-hWe];exact zuR _ _
 have hspe:=hsp.below be;have hze:We.heap[w.heap.size]?=some (.cells zbf 26 (0,0)):=by
  have e1:=(hbd.block _ (zae HXC.out)).trans HXC.out;exact(be.block _ (zae e1)).trans e1
 have hbe:Below w.heap.size w We:=zaa (zaa HBC.out HBC.out.size hbd) (zaa HBC.out HBC.out.size hbd).size be;have cy:=zm9 Wc We (.slice no Ns.length nc) (.slice bo X.length bc) Ns X hspe;obtain⟨p0,p1⟩:=zal xe;have HWE:=hdn hWe;have HSP:=hdn hspe;have HXE:=hdn xe;have HZE:=hdn hze;have HBE:=hdn hbe;have HBS:=hdn hbs;have hln:=hsp.nx.len;clear cw hsp hbd be xe hspe hze hbe hWe hbs
 go_upto_region 6 with fail
 rw[HWE.out];clear HWE
 go_wp2_with fail
 refine cy.mono ?_;rintro e Wf ⟨v2,rfl,hf2,hbf⟩;obtain⟨⟨a0,k0⟩,e0⟩:=zaj (hf2.own 0 (by omega));obtain⟨⟨a1,k1⟩,e1⟩:=zaj (hf2.own 1 (by omega));rw[(ze0 (bsX X)).1,zex] at e0;rw[(ze0 (bsX X)).2,zag] at e1;obtain⟨H,hH⟩:∃H,(hdsG (bsX X)).length=H:=⟨_,rfl⟩;have hHl:H<=256:=by rw[<-hH];exact zgE _
 rw[hH] at e1;obtain⟨Wg,hWg⟩:∃Wg,Wf.alloc (.cells #[.slice a0 256 k0,.int .i64 H,.slice none 0 0,.slice none 0 0,.slice none 0 0] 26)=Wg:=⟨_,rfl⟩;have hbg:Below Wf.heap.size Wf Wg:=by rw[<-hWg];exact(Below.refl _ _).alloc (zuz _) _
 have hrow:#[Value.slice a0 256 k0,.int .i64 H,.slice none 0 0,.slice none 0 0,.slice none 0 0]=rowD H (vC (v2 0) (v2 1)):=by rw[e0];rfl
 have hst:∀W1,Wg.grownBy W1 none->Mks W1 (Wf.heap.size+1) Ns.length (fun _=>false)->CmI We We.heap.size Wf.heap.size (W1.alloc (.cells #[.slice (some ⟨Wf.heap.size+1,0,none⟩) Ns.length Ns.length] 49)) X Ns.length H (vC (v2 0) (v2 1)) (lsK (bsX X) [] 0 0) (.slice (some ⟨W1.heap.size,0,none⟩) 1 1) (fun _=>Wf.heap.size+1) [zaZ]:=fun W1 hg hm=>by
  have:=CmI.start (We:=We) (Wf:=Wf) (W1:=W1) (gt:=We.heap.size) (X:=X) (N:=Ns.length) (v:=v2) (l:=btL (bsX X) 256) (width:=H) rfl hf2 hbf hbf.size (by rw[<-hrow,hWg];exact hg) hm;rw[(ze0 (bsX X)).1,(ze0 (bsX X)).2] at this;exact this
 have hsg:Wg.heap.size=Wf.heap.size+1:=by rw[<-hWg];simp
 have xg:Wg.heap[Wd.heap.size]?=some (.cells #[.slice no Ns.length nc,.slice bo X.length bc] 45 (0,0)):=(hbg.block _ (by have:=zae HXE.out;have:=hbf.size;omega)).trans ((hbf.block _ (zae HXE.out)).trans HXE.out);obtain⟨p0,p1⟩:=zal xg;have HWG:=hdn hWg;have HST:=hdn hst;have HSG:=hdn hsg;have HHH:=hdn hH;have hgw:w.heap.size<=Wg.heap.size:=by have:=HBE.out.size;have:=hbf.size;have:=hbg.size;omega
 have hwe:w.heap.size<We.heap.size:=zae HZE.out;have hde:Wd.heap.size<We.heap.size:=zae HXE.out;have hfe:We.heap.size<=Wf.heap.size:=hbf.size;clear hst hWg hsg hbg hrow hf2 cy hH xg hbf
 go_upto_region 8 with fail
 rw[HWG.out];clear HWG
 go_wp2_with (refine wpList_make_full _ rfl _ _ 49 rfl w.heap.size 4 ib _ 1 Tryz.underlying49 hib hb0 hb1 _ _ _ _ Ns.length rfl rfl rfl rfl (by rw[hb2];omega) (by unfold maxLen;omega) hgw ?_;intro W1 hown hgrow;rw[zhY] at hown;have hrw:=ze9 hown;rw[zgP,HSG.out] at hrw;have hI0:=HST.out W1 hgrow hrw;rw[HSG.out];clear hown hgrow hrw HST)
 generalize hgt:We.heap.size=gt at *;generalize hdb:Wf.heap.size=db at *;generalize hWh:W1.alloc (.cells #[.slice (some ⟨db+1,0,none⟩) Ns.length Ns.length] 49)=Wh at *;have HI0:=hdn hI0;clear hWh hI0;have hbsl:∀(k:Nat) (b:BrG),(bsX X)[k]?=some b->True:=fun _ _ _=>trivial
 clear hbsl
 go_loopw [10,11] (fun sv ki W=>∃(k:Nat) (gs:Nat->Nat) (v:Nat->Value),ki=.int .i64 k/\k<=(runG (bsX X) k).1.length/\(runG (bsX X) k).1.length<=most/\(∀i,i<k->i<(runG (bsX X) i).1.length/\(runG (bsX X) (i+1)).1.length<=most)/\v 4=.slice a1 H k1/\CmI We gt db W X Ns.length H v (lsK (bsX X) (runG (bsX X) k).2 k k) sv gs (runG (bsX X) k).1) (fun _ i _=>4001-(intOf i).toNat)
 case atStart=>exact⟨0,_,_,rfl,zuL _,h1,fun i h=>absurd h (by omega),by rw[<-e1];rfl,HI0.out⟩
 case round=>
  obtain⟨k,gs,v,rfl,hk0,hk1,hgo,hv4,hI⟩:=hrel;clear HI0;have HGO:=hdn hgo;have HV4:=hdn hv4;clear hgo hv4
  by_cases hlt:k<(runG (bsX X) k).1.length
  ·obtain⟨L,hL⟩:∃L,(runG (bsX X) k).1=L:=⟨_,rfl⟩;obtain⟨nx,hnx⟩:∃nx,(runG (bsX X) k).2=nx:=⟨_,rfl⟩;rw[hL] at hlt hk0 hk1 hI;rw[hnx] at hI;have HL:=hdn hL;have HNX:=hdn hnx;have hnl:nx.length=k*H:=by rw[<-hnx,(zfE (bsX X) k).nl,HHH.out]
   have hnl2:nx.length<=1100000:=by rw[hnl];exact zuA (zuG (by omega:k<=4000) hHl) (by decide)
   clear hL hnx hnl;have hset:L.getD k zaZ=setI (bsX X) k:=by rw[<-HL.out];rfl
   obtain⟨gv,cv,m,rfl,hcell,hmk,him,hsu⟩:=hI.at hlt;rw[hset] at him hsu;obtain⟨sk,hsk⟩:∃sk,setI (bsX X) k=sk:=⟨_,rfl⟩;rw[hsk] at him hsu;have HSK:=hdn hsk;obtain⟨gk,hgk⟩:∃gk,gs k=gk:=⟨_,rfl⟩;rw[hgk] at hcell hmk;have HGK:=hdn hgk;have hfst:((k:Int)==0)=(k==0):=by rw[ztu,beq_iff_eq,beq_iff_eq];omega
   obtain⟨f0,hf0⟩:∃f0:Bool,(k==0)=f0:=⟨_,rfl⟩;rw[hf0] at hfst;have HF0:=hdn hf0;have hi0:(0:Int)<=(k:Int):=by omega
   have hi1:(k:Int)<(L.length:Int):=by omega
   have HIM:=hdn him;have HSU:=hdn hsu;have HI1:=hdn hI;have HSET:=hdn hset;clear hset hsk him hsu hgk hf0 hI;have HCELL_HI1:=hdn hcell;have HMK_HI1:=hdn hmk;clear hcell hmk;obtain⟨⟨a3,c3⟩,ev2⟩:=zaj (HI1.out.fam.own 2 (by omega));rw[show lsK (bsX X) nx k k 2=tagL (bsX X) false k from rfl,zdu] at ev2;have HEV2:=hdn ev2;have Cd:∀s:ExtC wr,s.W.cell? ⟨db,3,none⟩=some (.slice a3 k c3):=fun s=>by have:=(zbT (HI1.out.call s.h).dbx).2.2.2.1;rw[HEV2.out] at this;exact this
   have Cx:∀s:ExtC wr,s.W.cell? ⟨Wd.heap.size,0,none⟩=some (.slice no Ns.length nc)/\s.W.cell? ⟨Wd.heap.size,1,none⟩=some (.slice bo X.length bc):=fun s=>zal (((HI1.out.call s.h).bg.block _ hde).trans HXE.out)
   have Cx0:=fun s=>(Cx s).1
   have Cx1:=fun s=>(Cx s).2
   have hcell:=HCELL_HI1.out;have Cs:∀s:ExtC wr,s.W.cell? ⟨gv,k,none⟩=some (.slice (some ⟨gk,0,none⟩) Ns.length Ns.length):=fun s=>(s.h.cell (p:=⟨gv,k,none⟩) (zn6 hcell)).trans hcell
   obtain⟨ya2,hya2⟩:∃ya,ansG (bsX X) f0 sk false=ya:=⟨_,rfl⟩;have Ca:∀W,Below wr.heap.size wr W->Calls Tryz.prog 18 #[.agg #[.slice no Ns.length nc,.slice bo X.length bc],.bool f0,.slice (some ⟨gk,0,none⟩) Ns.length Ns.length,.bool false] W fun e W'=>∃u,e=.returned u/\u=.int .i64 ya2/\Below W.heap.size W W':=fun W h=>(zgM Wc W _ _ Ns X f0 false gk Ns.length m sk (HSP.out.below (HI1.out.call h).bg') (HMK_HI1.out.below h) HIM.out).mono fun e W' ⟨h1,h2⟩=>⟨_,h1,by rw[hya2],h2⟩
   have HYA2:=hdn hya2;have HCA:=hdn Ca;clear Cx ev2 hcell Ca hya2
   go_upto_region 12 with fail
   refine zbY 9 11 (fun w'=>∃s:ExtC wr,w'=s.W) hmix ⟨⟨wr.drew,⟨rfl,rfl,rfl,zuz _,fun _ _=>rfl⟩⟩,rfl⟩ (by kernel_rfl) ?_;intro os hos;simp only[zus,zuu] at hos;subst hos
   repeat (go_big_quiet_step (fail))
   refine wpQuiet_nil ?_;rintro w' ⟨⟨Wb2,hWb2⟩,rfl⟩ r hr;simp only[ztI,ztJ] at hr;subst hr;clear Cd Cx0 Cx1 Cs;refine zbd rfl (fun K5 hK5=>?_);refine ziL 18 #[.tmp 49,.tmp 51,.tmp 55,.const (.bool false)] #[45,4,49,4] (by rfl) #[.agg #[.slice no Ns.length nc,.slice bo X.length bc],.bool f0,.slice (some ⟨gk,0,none⟩) Ns.length Ns.length,.bool false] (by simp[Act.eval]) _ (zl5 _ _) (HCA.out _ hWb2) ?_;rintro u Wk2 ⟨rfl,hk2⟩;have hbk2:=zaa hWb2 hWb2.size hk2;refine hK5 _ _ (fun _=>⟨⟨_,hbk2⟩,rfl⟩) ?_;clear hK5 K5 hk2 HCA;simp only[Act.put,List.setIfInBounds_toArray,List.set_cons_succ,List.set_cons_zero];refine zbd rfl (fun K5 hK5=>?_)
   first|go_big_move|go_big_op
   refine hK5 _ _ (fun _=>⟨⟨_,hbk2.alloc hbk2.size _⟩,rfl⟩) ?_;clear hK5 K5;refine zbX _ _ _ _ (zuz _) (fun _ _ h=>h) ?_;have hIk2:=HI1.out.call hbk2;have hsz2:=hIk2.size;have HIK2:=hdn hIk2;clear hIk2
   go_wp2_with (at_builtin;refine za4 HIK2.out.fam _ rfl rfl (.tmp 48) (.tmp 57) rfl 2 (by omega) (tagL (bsX X) false k) rfl k (zdu _ _ _) (by exact HEV2.out.symm) ya2 rfl (by omega) hsz2 ?_;intro g2 d2 V2 hF2 hg2;obtain⟨bx2,J2⟩:=HIK2.out.field (Below.refl _ _) (i:=2) (off:=3) (by omega) rfl hF2 hg2;have y2:=(zbT bx2).2.2.2.1;rw[HEV2.out] at y2;have fz2:=zuQ _ _ 3 _ _ bx2;clear hF2 hg2 bx2)
   rw[zcK];rw[show updL (lsK (bsX X) nx k k) 2 (tagL (bsX X) false k++[ya2])=lsK (bsX X) nx (k+1) k by unfold lsK;rw[zti,zfi (bsX X) false k,HF0.out,HSK.out,HYA2.out]] at J2;generalize hU2:V2.setCell ⟨db,3,none⟩ (.slice (some ⟨g2,0,none⟩) (k+1) d2)=U2 at *;have HI2:=hdn J2;obtain⟨gv',cv',m2,eg,hcell,hmk,him,hsu⟩:=J2.at hlt;cases eg;rw[HSET.out,HSK.out] at him hsu;rw[HGK.out] at hcell hmk;have HCELL_HI2:=hdn hcell;have HMK_HI2:=hdn hmk;have HIM2:=hdn him;clear hU2 J2 y2 fz2 HIK2 hsz2 hbk2 hWb2 him hsu hcell hmk;obtain⟨⟨a4,c4⟩,ev3⟩:=zaj (HI2.out.fam.own 3 (by omega));rw[show lsK (bsX X) nx (k+1) k 3=tagL (bsX X) true k from rfl,zdu] at ev3;have HEV3:=hdn ev3;have Cd:∀s:ExtC U2,s.W.cell? ⟨db,4,none⟩=some (.slice a4 k c4):=fun s=>by have:=(zbT (HI2.out.call s.h).dbx).2.2.2.2;rw[HEV3.out] at this;exact this
   have Cx:∀s:ExtC U2,s.W.cell? ⟨Wd.heap.size,0,none⟩=some (.slice no Ns.length nc)/\s.W.cell? ⟨Wd.heap.size,1,none⟩=some (.slice bo X.length bc):=fun s=>zal (((HI2.out.call s.h).bg.block _ hde).trans HXE.out)
   have Cx0:=fun s=>(Cx s).1
   have Cx1:=fun s=>(Cx s).2
   have hcell:=HCELL_HI2.out;have Cs:∀s:ExtC U2,s.W.cell? ⟨gv,k,none⟩=some (.slice (some ⟨gk,0,none⟩) Ns.length Ns.length):=fun s=>(s.h.cell (p:=⟨gv,k,none⟩) (zn6 hcell)).trans hcell
   obtain⟨ya3,hya3⟩:∃ya,ansG (bsX X) f0 sk true=ya:=⟨_,rfl⟩;have Ca:∀W,Below U2.heap.size U2 W->Calls Tryz.prog 18 #[.agg #[.slice no Ns.length nc,.slice bo X.length bc],.bool f0,.slice (some ⟨gk,0,none⟩) Ns.length Ns.length,.bool true] W fun e W'=>∃u,e=.returned u/\u=.int .i64 ya3/\Below W.heap.size W W':=fun W h=>(zgM Wc W _ _ Ns X f0 true gk Ns.length m2 sk (HSP.out.below (HI2.out.call h).bg') (HMK_HI2.out.below h) HIM2.out).mono fun e W' ⟨h1,h2⟩=>⟨_,h1,by rw[hya3],h2⟩
   have HYA3:=hdn hya3;have HCA:=hdn Ca;clear Cx ev3 hcell Ca hya3
   go_upto_region 13 with fail
   refine zbY 9 11 (fun w'=>∃s:ExtC U2,w'=s.W) hmix ⟨⟨U2.drew,⟨rfl,rfl,rfl,zuz _,fun _ _=>rfl⟩⟩,rfl⟩ (by kernel_rfl) ?_;intro os hos;simp only[zus,zuu] at hos;subst hos
   repeat (go_big_quiet_step (fail))
   refine wpQuiet_nil ?_;rintro w' ⟨⟨Wb3,hWb3⟩,rfl⟩ r hr;simp only[ztI,ztJ] at hr;subst hr;clear Cd Cx0 Cx1 Cs;refine zbd rfl (fun K5 hK5=>?_);refine ziL 18 #[.tmp 62,.tmp 64,.tmp 68,.const (.bool true)] #[45,4,49,4] (by rfl) #[.agg #[.slice no Ns.length nc,.slice bo X.length bc],.bool f0,.slice (some ⟨gk,0,none⟩) Ns.length Ns.length,.bool true] (by simp[Act.eval]) _ (zl5 _ _) (HCA.out _ hWb3) ?_;rintro u Wk3 ⟨rfl,hk3⟩;have hbk3:=zaa hWb3 hWb3.size hk3;refine hK5 _ _ (fun _=>⟨⟨_,hbk3⟩,rfl⟩) ?_;clear hK5 K5 hk3 HCA;simp only[Act.put,List.setIfInBounds_toArray,List.set_cons_succ,List.set_cons_zero];refine zbd rfl (fun K5 hK5=>?_)
   first|go_big_move|go_big_op
   refine hK5 _ _ (fun _=>⟨⟨_,hbk3.alloc hbk3.size _⟩,rfl⟩) ?_;clear hK5 K5;refine zbX _ _ _ _ (zuz _) (fun _ _ h=>h) ?_;have hIk3:=HI2.out.call hbk3;have hsz3:=hIk3.size;have HIK3:=hdn hIk3;clear hIk3
   go_wp2_with (at_builtin;refine za4 HIK3.out.fam _ rfl rfl (.tmp 61) (.tmp 70) rfl 3 (by omega) (tagL (bsX X) true k) rfl k (zdu _ _ _) (by exact HEV3.out.symm) ya3 rfl (by omega) hsz3 ?_;intro g3 d3 V3 hF3 hg3;obtain⟨bx3,J3⟩:=HIK3.out.field (Below.refl _ _) (i:=3) (off:=4) (by omega) rfl hF3 hg3;have y3:=(zbT bx3).2.2.2.2;rw[HEV3.out] at y3;have fz3:=zuQ _ _ 4 _ _ bx3;clear hF3 hg3 bx3)
   rw[zcK];rw[show updL (lsK (bsX X) nx (k+1) k) 3 (tagL (bsX X) true k++[ya3])=lsK (bsX X) nx (k+1) (k+1) by unfold lsK;rw[ztj,zfi (bsX X) true k,HF0.out,HSK.out,HYA3.out]] at J3;generalize hU3:V3.setCell ⟨db,4,none⟩ (.slice (some ⟨g3,0,none⟩) (k+1) d3)=U3 at *;have HI3:=hdn J3;obtain⟨gv',cv',m3,eg,hcell,hmk,him,hsu⟩:=J3.at hlt;cases eg;rw[HSET.out,HSK.out] at him hsu;rw[HGK.out] at hcell hmk;have HCELL_HI3:=hdn hcell;have HMK_HI3:=hdn hmk;have HIM3:=hdn him;clear hU3 J3 y3 fz3 HIK3 hsz3 hbk3 hWb3 him hsu hcell hmk;have hrun:runG (bsX X) k=(L,nx):=Prod.ext HL.out HNX.out;have HRUN:=hdn hrun;have hv4b:(upd (upd v 2 (.slice (some ⟨g2,0,none⟩) (k+1) d2)) 3 (.slice (some ⟨g3,0,none⟩) (k+1) d3)) 4=.slice a1 H k1:=by rw[zaD _ _ (by omega),zaD _ _ (by omega)];exact HV4.out
   have HV4B:=hdn hv4b;clear hrun hv4b
   go_wp2_with fail
   go_loopw [10,75] (fun sv mi W=>∃(j:Nat) (gs':Nat->Nat) (v':Nat->Value),j<=H/\mi=.int .i64 j/\v' 4=.slice a1 H k1/\gs' k=gk/\CmI We gt db W X Ns.length H v' (lsK (bsX X) (zb6 (bsX X) f0 sk (L,nx) j).2 (k+1) (k+1)) sv gs' (zb6 (bsX X) f0 sk (L,nx) j).1) (fun _ i _=>H-(intOf i).toNat)
   case atStart=>exact⟨0,gs,_,zuL _,rfl,HV4B.out,HGK.out,HI3.out⟩
   case round=>
    obtain⟨j,gs',v',hj,rfl,hv4',hgk',hI⟩:=hrel;have HV4':=hdn hv4';have HGK':=hdn hgk';clear hv4' hgk';obtain⟨⟨P,q⟩,hP⟩:∃Pq,zb6 (bsX X) f0 sk (L,nx) j=Pq:=⟨_,rfl⟩;rw[hP] at hI;have HPQ:=hdn hP;have hPl:L.length<=P.length:=by have:=zmr (bsX X) f0 sk (L,nx) j;rw[hP] at this;exact this
    have hPu:P.length<=L.length+j:=by have:=zj0 (bsX X) f0 sk (L,nx) j (by rw[HHH.out];exact hj);rw[hP] at this;exact this
    have hPk:P.getD k zaZ=sk:=by have:=zmq (bsX X) f0 sk (L,nx) j (i:=k) hlt;rw[hP] at this;rw[<-HSK.out,<-HSET.out];exact this
    have hPk':k<P.length:=by omega
    by_cases hjl:j<H
    ·have hql:q.length<=1100000:=by
      have:=(RunI.part (bs:=bsX X) (fst:=f0) (S:=sk) (st:=(L,nx)) (n:=k*H) (by have:=zfE (bsX X) k;rw[HRUN.out,HHH.out] at this;exact this) j (by rw[HHH.out];exact hj)).nl;rw[hP] at this;have hq:q.length=k*H+j:=this;have hkm:k*H<=3999*256:=zuG (by omega) hHl;omega
     have hh:=zrC (bsX X) (m:=j) (by rw[HHH.out];exact hjl);obtain⟨gh,kh,ehe,hgh,-,hcell4⟩:=zbe (hI.fam.own 4 (by omega)) (by show 0<(zav (hdsG (bsX X))).length;rw[zag,HHH.out];omega);have c4:=hcell4 j (by show j<(zav (hdsG (bsX X))).length;rw[zag,HHH.out];exact hjl);rw[show lsK (bsX X) q (k+1) (k+1) 4=zav (hdsG (bsX X)) from rfl,zbw] at c4;rw[HV4'.out,show (lsK (bsX X) q (k+1) (k+1) 4).length=(zav (hdsG (bsX X))).length from rfl,zag,HHH.out] at ehe;cases ehe;obtain⟨h,hhe⟩:∃h,(hdsG (bsX X)).getD j 0=h:=⟨_,rfl⟩;rw[hhe] at c4 hh;have HHE:=hdn hhe;obtain⟨gv2,cv2,mk2,eg,hcell,hmk,him,hsu⟩:=hI.at hPk';subst eg;rw[hPk] at him hsu;rw[HGK'.out] at hcell hmk;obtain⟨x0,x1⟩:=zal ((hI.bg.block _ hde).trans HXE.out);have hmj0:(0:Int)<=(j:Int):=by omega
     have hmj1:(j:Int)<(H:Int):=by omega
     have hpk1:(k:Int)<(P.length:Int):=by omega
     have hwb:=zsO hh;have ho:=ztb him HSP.out.lab f0 h;have cA:=fun nq=>zm7 Wc (wr.drewN nq) (.slice no Ns.length nc) (.slice bo X.length bc) Ns X f0 gk Ns.length h mk2 (HSP.out.below (hI.call (show Below wr.heap.size wr (wr.drewN nq) from⟨rfl,rfl,rfl,zuz _,fun _ _=>rfl⟩)).bg') (hmk.below ⟨rfl,rfl,rfl,zuz _,fun _ _=>rfl⟩) hh
     have HI4:=hdn hI;have HO:=hdn ho;have HCA:=hdn cA;clear hhe hcell4 him hsu hmk ho cA hI hP
     go_upto_region 17 with fail
     refine zbO 9 (fun w'=>∃n,w'=wr.drewN n) hmix ⟨1,rfl⟩ (by decide) (by kernel_rfl) ?_;intro os hos;simp only[zus,zuu] at hos;subst hos
     repeat (go_big_quiet_step (fail))
     refine wpQuiet_nil ?_;rintro w' ⟨nq,rfl⟩ r hr;simp only[ztI,ztJ] at hr;subst hr
     go_wp2_with fail
     refine(HCA.out nq).mono ?_;rintro e Wa ⟨go,rfl,hgo,hmo,hba⟩;clear HCA;have hba':Below wr.heap.size wr Wa:=⟨hba.os,hba.tape,hba.output,hba.size,hba.block⟩;have HIa:=hdn (HI4.out.call hba');have HMO:=hdn hmo;have hgod:gt<=go:=by have:=HI4.out.size;have hgo':wr.heap.size<=go:=hgo;omega
     obtain⟨S',hS'⟩:∃S',stpG (bsX X) f0 sk h=S':=⟨_,rfl⟩;have hsS:=zpJ X f0 sk h;rw[hS'] at hsS;have HS':=hdn hS';have HSS:=hdn hsS;have HOM:Hid (IsM X Ns.length (outK X f0 mk2 h X.length) S'):=by have:=HO.out;rw[hS'] at this;exact this
     generalize hom:outK X f0 mk2 h X.length=om at *;have hPP:P.length<=5000:=by omega
     clear hom hba hba' hmo hgo hS' hsS x0 x1 hcell c4 HO
     go_wp2_with fail
     go_loopw [15,16] (fun tv ji W=>∃i:Nat,1<=i/\i<=P.length/\ji=.int .i64 i/\tv=.int .i64 (-1)/\CmI We gt db W X Ns.length H v' (lsK (bsX X) q (k+1) (k+1)) (.slice (some ⟨gv2,0,none⟩) P.length cv2) gs' P/\Mks W go Ns.length om/\∀i',1<=i'->i'<i->P.getD i' zaZ≠S') (fun _ i _=>P.length-(intOf i).toNat)
     case atStart=>exact⟨1,zuz _,by omega,rfl,rfl,HIa.out,HMO.out,fun i' h1 h2=>by omega⟩
     case round=>
      obtain⟨i,hi1,hi2,rfl,rfl,hI,hm,hno⟩:=hrel;have HNO:=hdn hno;clear hno
      by_cases hil:i<P.length
      ·obtain⟨gv3,cv3,mi,eg,hci,hmi,him,hsi⟩:=hI.at hil;cases eg;have cs:=zoK wr Ns.length (gs' i) go Ns.length Ns.length mi om hmi hm hln;have hsame:=zrk him HOM.out HSP.out.lab hsi HSS.out;have HSA:=hdn hsame;have HI5:=hdn hI;have HM5:=hdn hm;have hii0:(0:Int)<=(i:Int):=by omega
       have hii1:(i:Int)<(P.length:Int):=by omega
       clear hI hm hsame him hsi hmi
       go_wp2_with fail
       refine cs.mono ?_;rintro e Ws ⟨⟨b,rfl,hb⟩,hbs⟩;have HI6:=hdn (HI5.out.call hbs);have HM6:=hdn (HM5.out.below hbs);have HBB:=hdn hb;clear cs hbs hb;cases b
       ·go_wp2
        go_roundw
        case rel=>exact⟨i+1,by omega,by omega,by go_num,rfl,HI6.out,HM6.out,fun i' h1 h2=>by
         rcases zuC i' i with h3|h3
         ·exact HNO.out i' h1 h3
         ·obtain rfl:i'=i:=by omega
          exact fun e=>Bool.false_ne_true (HBB.out.2 (HSA.out.2 e))⟩
        case measure=>simp[intOf];omega
       ·have hit:=HSA.out.1 (HBB.out.1 rfl);have hnx:=zst hi1 hil hit HNO.out;rw[<-HS'.out] at hnx;have hup:=zpS (bs:=bsX X) (fst:=f0) (S:=sk) (nx:=q) hnx hil;have hpt:zb6 (bsX X) f0 sk (L,nx) (j+1)=(P,q++[i]):=by rw[zes _ _ _ _ (by rw[HHH.out];exact hjl),HPQ.out,HHE.out];exact hup
        have HPT:=hdn hpt;obtain⟨⟨an,kn⟩,en⟩:=zaj (HI6.out.fam.own 1 (by omega));rw[show lsK (bsX X) q (k+1) (k+1) 1=zav q from rfl,zag] at en;have HEN:=hdn en;have hdn1:=(zbT HI6.out.dbx).2.2.1;rw[en] at hdn1;have hsz:=HI6.out.size;have hin1:decide ((i:Int)<0)=false:=decide_eq_false (by omega);clear hit hnx hup hpt en
        go_upto_region 28 with (at_builtin;refine za4 HI6.out.fam _ rfl rfl (.tmp 111) (.tmp 113) rfl 1 (by omega) (zav q) rfl q.length (zag _) (by exact HEN.out.symm) (i:Int) rfl (by omega) hsz ?_;intro g5 c5 V5 hF5 hg5;obtain⟨bx5,J5⟩:=HI6.out.field (Below.refl _ _) (i:=1) (off:=2) (by omega) rfl hF5 hg5;have y5:=(zbT bx5).2.2.1;rw[HEN.out] at y5;have fz5:=zuQ _ _ 2 _ _ bx5;clear hF5 hg5 bx5)
        rw[show updL (lsK (bsX X) q (k+1) (k+1)) 1 (zav q++[(i:Int)])=lsK (bsX X) (q++[i]) (k+1) (k+1) by unfold lsK;rw[zta,show zav q++[(i:Int)]=zav (q++[i]) by simp[zav]]] at J5;generalize hU5:V5.setCell ⟨db,2,none⟩ _=U5 at *;have hv5:(upd v' 1 (.slice (some ⟨g5,0,none⟩) (q.length+1) c5)) 4=.slice (some ⟨gh,0,none⟩) H k1:=by rw[zaD _ _ (by omega)];exact HV4'.out
        generalize upd v' 1 (.slice (some ⟨g5,0,none⟩) (q.length+1) c5)=v5 at *;have HJ5:=hdn J5;have HV5:=hdn hv5;clear J5 y5 fz5 hU5 hv5;go_wp2
        go_roundw
        case rel=>exact⟨j+1,gs',v5,by omega,by go_num,HV5.out,HGK'.out,by rw[HPT.out];exact HJ5.out⟩
        case measure=>simp[intOf];omega
      ·have hnx:=zq5 (L:=P) (S:=S') (by omega) (fun i' h1 h2=>HNO.out i' h1 (by omega));rw[<-HS'.out] at hnx;have hup:=zpU (bs:=bsX X) (fst:=f0) (S:=sk) (nx:=q) hnx;have hpt:zb6 (bsX X) f0 sk (L,nx) (j+1)=(P++[S'],q++[P.length]):=by rw[zes _ _ _ _ (by rw[HHH.out];exact hjl),HPQ.out,HHE.out,<-HS'.out];exact hup
       have HPT:=hdn hpt;have HI6:=hdn hI;have HM6:=hdn hm;have hsz:=hI.size;have hown6:=hI.out;obtain⟨iS,hjS,hyS0,hyS1,hyS2⟩:=info_parts Tryz.infoBoolsC;have hxi:decide ((i:Int)<(P.length:Int))=false:=decide_eq_false (by omega);have hset7:∀(V:World) (g c:Nat),V.ownsRow (gt+1) 49 1 (.slice (some ⟨g,0,none⟩) (P.length+1) c) (P.length+1) (zf6 gs' Ns.length P.length++[.slice (some ⟨go,0,none⟩) Ns.length Ns.length])->wr.grownBy V (some gv2)->∃gs7:Nat->Nat,gs7 k=gk/\CmI We gt db V X Ns.length H v' (lsK (bsX X) q (k+1) (k+1)) (.slice (some ⟨g,0,none⟩) (P.length+1) c) gs7 (P++[S']):=fun V g c h1 h2=>⟨_,by rw[zuU (by omega)];exact HGK'.out,HI6.out.set (Below.refl _ _) hgod HM6.out HOM.out HSS.out h1 h2⟩
       have HS7:=hdn hset7;clear hnx hup hpt hI hm hset7
       go_upto_region 27 with (at_builtin;refine zaO wr _ rfl rfl (.tmp 106) (.tmp 108) 50 rfl (gt+1) 49 iS (.slice none 0 0) 24 Tryz.underlying50 hjS hyS0 hyS1 hyS2 rfl gv2 cv2 P.length (zf6 gs' Ns.length P.length) (.slice (some ⟨go,0,none⟩) Ns.length Ns.length) rfl hown6 rfl rfl (by omega) (by omega) hsz ?_;intro g6 c6 V6 hO6 hg6 hat6)
       obtain⟨gs7,hg7,J7⟩:=HS7.out V6 g6 c6 hO6 hg6;have HI7:=hdn J7;have HG7:=hdn hg7;obtain⟨⟨an,kn⟩,en⟩:=zaj (J7.fam.own 1 (by omega));rw[show lsK (bsX X) q (k+1) (k+1) 1=zav q from rfl,zag] at en;have HEN:=hdn en;have hdn1:=(zbT J7.dbx).2.2.1;rw[en] at hdn1;have hsz7:=J7.size;clear hO6 hg6 hat6 J7 hg7 en hown6
       go_upto_region 28 with (at_builtin;refine za4 HI7.out.fam _ rfl rfl (.tmp 111) (.tmp 113) rfl 1 (by omega) (zav q) rfl q.length (zag _) (by exact HEN.out.symm) (P.length:Int) rfl (by omega) hsz7 ?_;intro g5 c5 V5 hF5 hg5;obtain⟨bx5,J5⟩:=HI7.out.field (Below.refl _ _) (i:=1) (off:=2) (by omega) rfl hF5 hg5;have y5:=(zbT bx5).2.2.1;rw[HEN.out] at y5;have fz5:=zuQ _ _ 2 _ _ bx5;clear hF5 hg5 bx5)
       rw[show updL (lsK (bsX X) q (k+1) (k+1)) 1 (zav q++[(P.length:Int)])=lsK (bsX X) (q++[P.length]) (k+1) (k+1) by unfold lsK;rw[zta,show zav q++[(P.length:Int)]=zav (q++[P.length]) by simp[zav]]] at J5;generalize hU5:V5.setCell ⟨db,2,none⟩ _=U5 at *;have hv5:(upd v' 1 (.slice (some ⟨g5,0,none⟩) (q.length+1) c5)) 4=.slice (some ⟨gh,0,none⟩) H k1:=by rw[zaD _ _ (by omega)];exact HV4'.out
       generalize upd v' 1 (.slice (some ⟨g5,0,none⟩) (q.length+1) c5)=v5 at *;have HJ5:=hdn J5;have HV5:=hdn hv5;clear J5 y5 fz5 hU5 hv5;go_wp2
       go_roundw
       case rel=>exact⟨j+1,gs7,v5,by omega,by go_num,HV5.out,HG7.out,by rw[HPT.out];exact HJ5.out⟩
       case measure=>simp[intOf];omega
    ·have hjj:j=H:=by omega
     have hrk:runG (bsX X) (k+1)=(P,q):=by
      rw[zfe,HRUN.out,HF0.out,HHH.out];rw[show (L,nx).1.getD k zaZ=sk from HSET.out.trans HSK.out,<-hjj];exact HPQ.out
     have HRK:=hdn hrk;have hbw:=zaa HBE.out HBE.out.size hI.bg';have HBW:=hdn hbw;obtain⟨gv3,cv3,m3,eg,-,-,-,-⟩:=hI.at hPk';subst eg;have xz:=(hI.bg.block _ hwe).trans HZE.out;obtain⟨z0,z1,z2,z3,z4⟩:=zdR xz;obtain⟨f0',f1',f2',f3',f4'⟩:=zcL xz;have HI8:=hdn hI;have hjx:¬(j:Int)<(H:Int):=by omega
     clear hrk hbw hI xz hP
     by_cases hbig:most<P.length
     ·have hb1:decide ((most:Int)<(P.length:Int))=true:=decide_eq_true (by omega);have hb2:(most:Int)<(P.length:Int):=by omega
      go_wp2;refine zuN (v:=.tuple #[.agg #[.slice none 0 0,.int .i64 0,.slice none 0 0,.slice none 0 0,.slice none 0 0],.int .i64 3]) (by simp[results,Tryz.results5,go_sem,z0,z1,z2,z3,z4]) rfl ?_;refine hR ⟨k,?_⟩ _ (zbn HBW.out (zuz _) _ _ _ _ _);rw[<-HBS.out];exact⟨HGO.out,by rw[HL.out];exact hlt,by rw[HRK.out];exact hbig⟩
     ·have hb1:decide ((most:Int)<(P.length:Int))=false:=decide_eq_false (by omega);have hb2:¬(most:Int)<(P.length:Int):=by omega
      go_wp2
      go_roundw
      case rel=>
       refine⟨k+1,gs',v',by go_num,?_,?_,fun i h=>?_,HV4'.out,?_⟩
       ·rw[HRK.out];show k+1<=P.length;omega
       ·rw[HRK.out];show P.length<=most;omega
       ·rcases zuC i k with h3|h3
        ·exact HGO.out i h3
        ·obtain rfl:i=k:=by omega
         exact⟨by rw[HL.out];exact hlt,by rw[HRK.out];show P.length<=most;omega⟩
       ·rw[HRK.out];exact HI8.out
      case measure=>simp[intOf];omega
  ·have hkk:(runG (bsX X) k).1.length=k:=by omega
   have hEnd:EndG (bsX X) most k:=⟨hkk,HGO.out⟩;obtain⟨ht1,ht2⟩:=zl4 hEnd;have hD:zbU (gt+1) wr (v 0) (v 1) (v 2) (v 3) (dfaG (bsX X) k):=by
    have o0:=hI.fam.own 0 (by omega);have o1:=hI.fam.own 1 (by omega);have o2:=hI.fam.own 2 (by omega);have o3:=hI.fam.own 3 (by omega);have hn1:(zav (runG (bsX X) k).2).length<=9223372036854775807:=by
     rw[zag,(zfE (bsX X) k).nl];have:k*(hdsG (bsX X)).length<=4000*256:=zuG (by omega) (zgE _);omega
    refine⟨Owns.at o0 (by show (clsC (bsX X) 256).length<=_;rw[zex];omega),Owns.at o1 hn1,?_,?_⟩
    ·rw[ht1];exact Owns.at o2 (by show (tagL (bsX X) false k).length<=_;rw[zdu];omega)
    ·rw[ht2];exact Owns.at o3 (by show (tagL (bsX X) true k).length<=_;rw[zdu];omega)
   have cm:=zhe (v 0) (v 1) (v 2) (v 3) (dfaG (bsX X) k) wr hD;rw[show (dfaG (bsX X) k).width=((hdsG (bsX X)).length:Int) from rfl,HHH.out] at cm;obtain⟨y0,y1,y2,y3,y4⟩:=zbT hI.dbx;have xz:=(hI.bg.block _ hwe).trans HZE.out;have HXZ:=hdn xz;have hbw:=zaa HBE.out HBE.out.size hI.bg';have HBW:=hdn hbw;have HEnd:=hdn hEnd;have hkx:decide ((k:Int)<((runG (bsX X) k).1.length:Int))=false:=decide_eq_false (by omega);have hkx2:¬(k:Int)<((runG (bsX X) k).1.length:Int):=by omega
   obtain⟨gv0,cv0,rfl⟩:=hI.form;generalize hLL:(runG (bsX X) k).1.length=LL at *;clear hD ht1 ht2 hEnd hI hbw xz hkk hLL
   go_upto_region 31 with fail
   go_wp2_with fail
   refine cm.mono ?_;rintro e Wm ⟨gm,vm,rfl,hgm,hFm,hbm⟩;have xm:=(hbm.block _ (zae HXZ.out)).trans HXZ.out;obtain⟨z0,z1,z2,z3,z4⟩:=zdR xm;obtain⟨f0',f1',f2',f3',f4'⟩:=zcL xm;obtain⟨⟨b0,d0⟩,w0e⟩:=zaj (hFm.own 0 (by omega));obtain⟨⟨b1,d1⟩,w1e⟩:=zaj (hFm.own 1 (by omega));obtain⟨⟨b2,d2⟩,w2e⟩:=zaj (hFm.own 2 (by omega));obtain⟨⟨b3,d3⟩,w3e⟩:=zaj (hFm.own 3 (by omega));have hans:zcA w 0 (minW (dfaG (bsX X) k)) (minL (dfaG (bsX X) k)) (.returned (.tuple #[.agg (rowD (minW (dfaG (bsX X) k)) vm),.int .i64 0])) (set5 Wm w.heap.size (vm 0) (.int .i64 (minW (dfaG (bsX X) k))) (vm 1) (vm 2) (vm 3)):=
    ⟨gm,vm,rfl,by have:=HBW.out.size;omega,hFm.set5 (by have:=HBW.out.size;omega) _ _ _ _ _,zbn (zaa HBW.out HBW.out.size hbm) (zuz _) _ _ _ _ _⟩
   have HANS:=hdn hans;generalize hmw:minW (dfaG (bsX X) k)=mw at *;generalize (minL (dfaG (bsX X) k) 0).length=n0 at *;generalize (minL (dfaG (bsX X) k) 1).length=n1 at *;generalize (minL (dfaG (bsX X) k) 2).length=n2 at *;generalize (minL (dfaG (bsX X) k) 3).length=n3 at *;have hrd:rowD mw vm=#[.slice b0 n0 d0,.int .i64 mw,.slice b1 n1 d1,.slice b2 n2 d2,.slice b3 n3 d3]:=by unfold rowD;rw[w0e,w1e,w2e,w3e]
   rw[hrd];have HRD:=hdn hrd;have HW0E:=hdn w0e;have HW1E:=hdn w1e;have HW2E:=hdn w2e;have HW3E:=hdn w3e;have HMW:=hdn hmw;clear hans xm hFm hbm cm y0 y1 y2 y3 y4 hrd w0e w1e w2e w3e hmw;go_wp2;refine zuN (v:=.tuple #[.agg #[.slice b0 n0 d0,.int .i64 mw,.slice b1 n1 d1,.slice b2 n2 d2,.slice b3 n3 d3],.int .i64 0]) (by simp[results,Tryz.results5,go_sem,z0,z1,z2,z3,z4]) rfl ?_;refine hE k (by rw[<-HBS.out];exact HEnd.out) _ _ ?_;rw[<-HBS.out,HMW.out,<-HRD.out,<-HW0E.out,<-HW1E.out,<-HW2E.out,<-HW3E.out];exact HANS.out
end Go.Proofs.YthddplbodacjgaaGreatDoor
