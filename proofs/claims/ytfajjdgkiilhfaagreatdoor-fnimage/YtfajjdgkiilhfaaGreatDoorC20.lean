import Derived.Test.YtfajjdgkiilhfaaGreatDoorC19
import Derived.Deep.RegionWith
import Derived.Deep.CutRange
namespace Go.Proofs.YtfajjdgkiilhfaaGreatDoor
open Proofs.Tryz
open Option renaming none->za,some->zb
open Value renaming slice->zc,int->zd,agg->zk
open Obj renaming cells->ze
open Go renaming Value->zf,World->zh,TypeId->zj,Calls->zm
open RowKit renaming Below->zg
set_option maxHeartbeats 4000000
set_option maxRecDepth 100000
open Go.RowKit
attribute [local go_sem ↓] wp_at_zero wp_at_succ
section
variable {w W W':zh}{p n k:Nat}{nv bv:zf}{Ns Ms:List bB}{X:Xs}{bs:List dn}{T:GT}{M:GA}
theorem Tryz.zCl:(prog.info? 121).map (λi=>(i.zero,i.size,i.bytes))=zb (zb (zk #[zd .i64 0,.bool false,.bool false,zd .i64 0]),4,24):=by kernel_rfl
def BR(X:Xs):List zf:=X.flatMap λx=>b4 x.1
theorem zsb(X:Xs)(x:nu×GT):BR (X++[x])=BR X++b4 x.1:=by simp[BR]
structure vD(w:zh)(p:Nat)(W:zh)(nv bv:zf)(Ns:List bB)(X:Xs)(bs:List dn)(n:Nat):Prop where
 wt:jV p W nv bv Ns
 bo:W.ownsRow (p+1) 121 4 bv X.length (BR X)
 ma:DN w Ns X
 eq:aF X=bs
 len:Ns.length=n
 xl:X.length<=n
 bw:W.heap[w.heap.size]?=zb (ze #[zc za 0 0,zc za 0 0] 89 (0,0))
 bl:zg w.heap.size w W
theorem vD.below(h:vD w p W nv bv Ns X bs n)(hb:zg W.heap.size W W'):vD w p W' nv bv Ns X bs n:=
 ⟨h.wt.below hb,ub h.bo λb kT=>hb.block b (dU h.bo kT).2,h.ma,h.eq,h.len,h.xl,(hb.block _ (ay h.bw)).trans h.bw,aH h.bl h.bl.size hb⟩
theorem vD.zx0(h:vD w p W nv bv Ns X bs n):∃ao cap,bv=.slice ao X.length cap:=by
 rcases h.bo.2 with ⟨h,h0⟩|⟨g,cap,_,h,_⟩
 ·exact⟨za,0,by rw[h,h0]⟩
 ·exact⟨_,_,h⟩
structure DM(w:zh)(p:Nat)(W:zh)(nv bv:zf)(Ns Ms:List bB)(X:Xs)(T:GT)(bs:List dn)(n:Nat)(M:GA)(k:Nat):Prop where
 wt:jV p W nv bv (Ns++Ms)
 tt:jU w Ns Ms M k T
 bo:W.ownsRow (p+1) 121 4 bv X.length (BR X)
 ma:DN w Ns X
 eq:aF X=bs
 len:Ns.length=n
 xl:X.length<=n
 bw:W.heap[w.heap.size]?=zb (ze #[zc za 0 0,zc za 0 0] 89 (0,0))
 bl:zg w.heap.size w W
theorem vD.write{sF:zf}(h:vD w p W nv bv Ns X bs n)(hp:p=w.heap.size+1)(kp:fy p W W')(wt:jV p W' sF bv (Ns++Ms))(tt:jU w Ns Ms M k T):DM w p W' sF bv Ns Ms X T bs n M k:=by
 refine⟨wt,tt,?_,h.ma,h.eq,h.len,h.xl,(kp.low _ (by omega)).trans h.bw,kp.base h.bl (by omega)⟩;refine ub h.bo λb hb=>?_
 obtain⟨aZ,e⟩:=KW h.bo hb;exact(kp.E3 b _ _ e (by decide) (by decide)).trans e.symm
theorem DM.below(h:DM w p W nv bv Ns Ms X T bs n M k)(hb:zg W.heap.size W W'):DM w p W' nv bv Ns Ms X T bs n M k:=
 ⟨h.wt.below hb,h.tt,ub h.bo λb kT=>hb.block b (dU h.bo kT).2,h.ma,h.eq,h.len,h.xl,(hb.block _ (ay h.bw)).trans h.bw,aH h.bl h.bl.size hb⟩
theorem DM.done{W1 W9:zh}{g cap i:Nat}{bol eol:Bool}(h:DM w p W nv bv Ns Ms X T bs n M k)(hp:p=w.heap.size+1)(hb:zg W.heap.size W W1)
  (lQ:W9.ownsRow (p+1) 121 4 (zc (zb ⟨g,0,za⟩) (X.length+1) cap) (X.length+1) (BR X++[zd .i64 (i:Nat),.bool bol,.bool eol,zd .i64 ((Ns.length+Ms.length-1:Nat):Int)])) (eK:W1.grownBy W9 bv.ownBlock):
  W9.heap[p]?=zb (ze #[nv,bv] 89 (0,0))/\vD w p (W9.setCell ⟨p,1,za⟩ (zc (zb ⟨g,0,za⟩) (X.length+1) cap)) nv (zc (zb ⟨g,0,za⟩) (X.length+1) cap) (Ns++Ms) (X++[(⟨i,bol,eol,Ns.length+Ms.length-1⟩,T)]) (bs++[⟨i,bol,eol,M⟩]) (n+k)/\(∀(j:Nat) (cs:Array zf) (t:zj),W.heap[j]?=zb (ze cs t (0,0))->t≠89->t≠121->(W9.setCell ⟨p,1,za⟩ (zc (zb ⟨g,0,za⟩) (X.length+1) cap)).heap[j]?=zb (ze cs t (0,0))):=by
 have h1:=h.below hb;have hlt:=ay h1.wt.box;have hne:bv.ownBlock≠zb p:=λe=>by have:=(dU h1.bo e).1;omega
 have dk:W9.heap[p]?=zb (ze #[nv,bv] 89 (0,0)):=(eK.block p hlt (λe=>hne e.symm)).trans h1.wt.box;have Sz:∀(j:Nat) (cs:Array zf) (t:zj),W1.heap[j]?=zb (ze cs t (0,0))->t≠121->W9.heap[j]?=zb (ze cs t (0,0)):=λj cs t e ht=>by
  refine(eK.block j (ay e) (λe2=>?_)).trans e;obtain⟨aZ,e3⟩:=KW h1.bo e2.symm;rw[e]at e3;exact ht (OD e3)
 have Yn:=TB W9 p 1 (zc (zb ⟨g,0,za⟩) (X.length+1) cap);have low:∀j,j<p->(W9.setCell ⟨p,1,za⟩ (zc (zb ⟨g,0,za⟩) (X.length+1) cap)).heap[j]?=W1.heap[j]?:=λj hj=>by
  rw[bh _ _ _ _ (by simp;omega)];exact eK.block j (by omega) (λe=>by have:=(dU h1.bo e.symm).1;omega)
 refine⟨dk,⟨⟨?_,?_⟩,?_,h.ma.snoc h.tt _ rfl,?_,?_,?_,?_,?_⟩,?_⟩
 ·exact cJ W9 p 1 _ _ (zc (zb ⟨g,0,za⟩) (X.length+1) cap) dk
 ·refine ub h1.wt.own λb kT=>?_
  obtain⟨aZ,e⟩:=KW h1.wt.own kT;have fX:=(dU h1.wt.own kT).1;rw[bh _ _ _ _ (by simp;omega)];exact(Sz b _ _ e (by decide)).trans e.symm
 ·rw[zsb,aQ,IK];refine ub lQ λb kT=>?_
  have:=(dU lQ kT).1;exact bh _ _ _ _ (by simp;omega)
 ·rw[<-h.eq];unfold aF;rw[sY];simp[h.tt.ga]
 ·rw[aQ,h.len,h.tt.len]
 ·rw[aQ,IK];have:=h.xl;have:=h.tt.pos;omega
 ·exact(low _ (by omega)).trans h1.bw
 ·exact⟨eK.os.trans h1.bl.os,eK.tape.trans h1.bl.tape,eK.output.trans h1.bl.output,cY h1.bl.size (cY eK.size Yn.size),λj hj=>(low j (by omega)).trans (h1.bl.block j hj)⟩
 ·intro j cs t e tQ xS;have e9:=Sz j cs t ((hb.block j (ay e)).trans e) xS;refine(bh _ _ _ _ (λe2=>?_)).trans e9;simp at e2;subst e2;rw[dk]at e9;exact tQ (OD e9).symm
theorem zvn{α:Type}(f:α->List zf)(hf:∀x,(f x).length=4):∀(l:List α) (i j:Nat) (x:α),l[i]?=zb x->j<4->(l.flatMap f)[i*4+j]?=(f x)[j]?
 |[],i,j,x,h,_=>by simp at h
 |a::l,0,j,x,h,hj=>by
  simp at h;subst h;rw[List.flatMap_cons,vp (by rw[hf];omega)];simp
 |a::l,i+1,j,x,h,hj=>by
  have:=zvn f hf l i j x (by simpa using h) hj;rw[List.flatMap_cons,Ap (by rw[hf];omega),hf,show (i+1)*4+j-4=i*4+j by omega];exact this
theorem ztJ{α:Type}{B:Nat}{e:zj}{v:zf}{l:List α}(f:α->List zf)(hf:∀x,(f x).length=4)(h:w.ownsRow B e 4 v l.length (l.flatMap f)):∃ao cap,v=.slice ao l.length cap/\(0<l.length->∃g,ao=zb ⟨g,0,za⟩/\B<=g/\g<w.heap.size/\∀i x,l[i]?=zb x->∀j u,(f x)[j]?=zb u->w.cell? ⟨g,i*4+j,za⟩=zb u):=by
 have h0:=h;rcases h.2 with ⟨rfl,hz⟩|⟨g,cap,aZ,rfl,hg,et,_⟩
 ·exact⟨za,0,by rw[hz],λhp=>by omega⟩
 ·refine⟨zb ⟨g,0,za⟩,cap,rfl,λ_=>⟨g,rfl,hg,ay et,λi x hx j u hu=>?_⟩⟩;have hi:=(mA.1 hx).1;have hj:j<4:=by have:=(mA.1 hu).1;rw[hf]at this;exact this
  have:=World.ownsRow.cellAt (show w.ownsRow B e 4 (zc (zb ⟨g,0,za⟩) l.length cap) l.length (l.flatMap f) from h0) (i*4+j) (by omega);rw[this,zvn f hf l i j x hx hj,hu]
theorem vD.spx(h:vD w p W nv bv Ns X bs n)(hp:p=w.heap.size+1)(hn:n<=8589934592):
  xp w ((W.setCell ⟨w.heap.size,0,za⟩ nv).setCell ⟨w.heap.size,1,za⟩ bv) nv bv Ns X/\zg w.heap.size w ((W.setCell ⟨w.heap.size,0,za⟩ nv).setCell ⟨w.heap.size,1,za⟩ bv):=by
 have hb:zg w.heap.size w ((W.setCell ⟨w.heap.size,0,za⟩ nv).setCell ⟨w.heap.size,1,za⟩ bv):=(h.bl.setCell (by simp) _).setCell (by simp) _;have hk:∀g o,p<g->((W.setCell ⟨w.heap.size,0,za⟩ nv).setCell ⟨w.heap.size,1,za⟩ bv).cell? ⟨g,o,za⟩=W.cell? ⟨g,o,za⟩:=λg o hg=>
  World.cell?_of_block (w:=W) (by rw[bh _ _ _ _ (by simp;omega),bh _ _ _ _ (by simp;omega)])
 refine⟨⟨⟨by rw[h.len];exact hn,?_⟩,⟨by have:=h.xl;omega,?_⟩,h.ma.tr,h.ma.cK,hb,h.ma.al⟩,hb⟩
 ·obtain⟨ao,cap,e,h1⟩:=ztJ Ob (λ_=>rfl) h.wt.own;refine⟨ao,cap,e,λh0=>?_⟩;obtain⟨g,e2,hg,hl,hc⟩:=h1 h0;refine⟨g,e2,by simpa [World.setCell]using hl,λi hi j u hu=>?_⟩;rw[hk g _ (by omega)];have hx:=bE hi;exact hc i _ hx j u (by rw[show Ns.getD i .zero=Ns[i] by simp[List.getD,hi]]at hu;exact hu)
 ·obtain⟨ao,cap,e,h1⟩:=ztJ (λx:nu×GT=>b4 x.1) (λ_=>rfl) h.bo;refine⟨ao,cap,e,λh0=>?_⟩;obtain⟨g,e2,hg,hl,hc⟩:=h1 h0;refine⟨g,e2,by simpa [World.setCell]using hl,λi x hx j u hu=>?_⟩;rw[hk g _ (by omega)];exact hc i x hx j u hu
end
theorem ZW{w:zh}{g:Nat}{a b c:zf}{t:zj}(h:w.heap[g]?=zb (ze #[a,b,c] t (0,0))):w.cell? ⟨g,0,za⟩=zb a/\w.cell? ⟨g,1,za⟩=zb b/\w.cell? ⟨g,2,za⟩=zb c:=by
 have:∀o,w.cell? ⟨g,o,za⟩=#[a,b,c][o]?:=λ_=>iY _ _ _ _ _ _ h
 exact⟨this 0,this 1,this 2⟩
structure Jh(rs:List dL):Prop where
 sm:Iy rs
 ok:∀k,k<rs.length->qP (rs.getD k .zero).branches
 ct:oZ rs<=8589934592
theorem znO{ns:List aC}(h:kL ns=true):0<ns.length:=by
 rcases Nat.eq_zero_or_pos ns.length with h0|h0
 ·have:ns=[]:=qV h0;subst this;simp[kL,gF]at h
 ·exact h0
theorem zo6(v:zf)(rs:List dL)(w:zh)(hs:qJ 0 w v rs)(hw:Jh rs):
  zm prog 54 #[v] w λe W=>∃nv bv Ns X,e=.returned (zk #[nv,bv])/\xp w W nv bv Ns X/\aF X=fA 0 rs/\zg w.heap.size w W:=by
 obtain⟨ao,cap,rfl,hm,hc⟩:=hs;obtain⟨i0,hi,da,dt,cR⟩:=info_parts Tryz.zCl;have hl:=hw.sm.1;obtain⟨p,hp⟩:∃p,p=w.heap.size+1:=⟨_,rfl⟩;obtain⟨W0,aw⟩:∃W0,(w.alloc (ze #[zc za 0 0,zc za 0 0] 89)).alloc (ze #[zc za 0 0,zc za 0 0] 89)=W0:=⟨_,rfl⟩;have oB:vD w p W0 (zc za 0 0) (zc za 0 0) [] [] [] 0:=by
  subst aw;subst hp;refine⟨⟨Ui _ _ _,⟨rfl,.inl ⟨rfl,rfl⟩⟩⟩,⟨rfl,.inl ⟨rfl,rfl⟩⟩,DN.nil w,rfl,rfl,aq _,qK (aJ _ _),(ax).alloc (by simp) _⟩
 have HC:=ag hc;have HW:=ag hw;have HP:=ag hp;have bD:=ag aw;clear hc hw aw hp
 go_enter func54,ntmps54
 go_upto_region 2 with fail
 rw[bD.out];clear bD;rw[<-HP.out]
 go_wp2_with fail
 go_loopw [13] (λi wr=>∃(k:Nat) (nv bv:zf) (Ns:List bB) (X:Xs),k<=rs.length/\i=zd .i64 k/\vD w p wr nv bv Ns X (fA 0 (rs.take k)) (oZ (rs.take k))) (λi _=>rs.length-(intOf i).toNat)
 case atStart=>exact⟨0,_,_,_,_,dz _,rfl,by simpa [fA,oZ]using oB⟩
 case round=>
  obtain⟨k,nv,bv,Ns,X,hk,rfl,hI⟩:=hrel;clear oB
  by_cases hlt:k<rs.length
  ·obtain⟨b,o,rbv,rd,rfl,ux,bF,c0,c1,nG⟩:=HC.out.elem hI.bl hlt;obtain⟨bo,bc,rfl,GD,tJ⟩:=nG;have EI:=HW.out.sm.2 k hlt;have Ke:=HW.out.ok k hlt;have Xy:=zkI rs hlt;have zyI:=zpW rs (k+1);have Xw:=zsi rs hlt;rw[ux.out]at EI Ke Xy Xw;have eC:(0:Int)<=(k:Int):=by omega
   have dg:(k:Int)<(rs.length:Int):=by omega
   have fP:b<wr.heap.size:=dR bF hI.bl.size;obtain⟨W1,cZ⟩:∃W1,wr.alloc (ze #[.slice bo rd.branches.length bc,zd .i64 rd.jC] 101)=W1:=⟨_,rfl⟩;have b1:zg wr.heap.size wr W1:=by rw[<-cZ];exact ax
   have x1:W1.heap[wr.heap.size]?=zb (ze #[.slice bo rd.branches.length bc,zd .i64 rd.jC] 101 (0,0)):=by rw[<-cZ];exact aJ _ _
   obtain⟨q0,q1⟩:=dV x1;have Jy:=hI.below b1;have l5:=ag Jy;have HW1:=ag cZ;have IV:=ag tJ;have DI:=ag EI;have HOK:=ag Ke;have Uy:=ag Xy;have vt:=ag zyI;have HBK:=ag Xw;clear Jy cZ tJ EI Ke Xy zyI Xw hI b1 x1
   go_upto_region 5 with fail
   rw[HW1.out];clear HW1 c0 c1
   go_wp2_with fail
   go_loopw [21] (λi wr2=>∃(j:Nat) (nv bv:zf) (Ns:List bB) (X:Xs),j<=rd.branches.length/\i=zd .i64 j/\vD w p wr2 nv bv Ns X (fA 0 (rs.take k)++(wN k rd.branches).take j) (oZ (rs.take k)+pK (rd.branches.take j))) (λi _=>rd.branches.length-(intOf i).toNat)
   case atStart=>exact⟨0,_,_,_,_,dz _,rfl,by simpa [pK]using l5.out⟩
   case round=>
    obtain⟨j,nv,bv,Ns,X,hj,rfl,hI⟩:=hrel
    by_cases mc:j<rd.branches.length
    ·obtain⟨Ji,Jj,rfl⟩:=hI.zx0;obtain⟨b2,o2,nnv,bd,zBm,Vj,zl,d0,d1,d2,GY⟩:=IV.out.elem (Below.refl _ _) mc;cases zBm;obtain⟨oL,oM,zBY,pi,sj⟩:=GY;subst zBY;have zyi:og 0 w (.slice oL bd.nodes.length oM) bd.nodes:=⟨oL,oM,rfl,pi,sj⟩;have d0:=(hI.bl.cell (p:=⟨b2,o2+j*3,za⟩) zl).trans d0;have d1:=(hI.bl.cell (p:=⟨b2,o2+j*3+1,za⟩) zl).trans d1;have d2:=(hI.bl.cell (p:=⟨b2,o2+j*3+2,za⟩) zl).trans d2;have Er:b2<wr.heap.size:=dR zl hI.bl.size;have jp:bd.nodes.length<=1048576:=by have:=(DI.out.2 j mc).1;rw[Vj.out]at this;exact this
     obtain⟨vW,pU⟩:=HOK.out j mc;rw[Vj.out]at vW pU;have oJ:=znO vW;have mP:=zkH rd.branches mc;have zBr:=zpU rd.branches (j+1);have vS:=zot k rd.branches mc;rw[Vj.out]at mP vS;have hxl:X.length<=8589934592:=by have:=hI.xl;have:=Uy.out;have:=vt.out;have:=HW.out.ct;omega
     have hct:Ns.length+dO (wT bd)<=8589934592:=by have:=hI.len;have:=Uy.out;have:=vt.out;have:=HW.out.ct;omega
     have GL:(0:Int)<=(j:Int):=by omega
     have se:(j:Int)<(rd.branches.length:Int):=by omega
     have AW:IntKind.i64.wrap ((bd.nodes.length:Int)-1)=((bd.nodes.length-1:Nat):Int):=by rw[IntKind.wrap_i64];omega
     obtain⟨W2,fe⟩:∃W2,wr.alloc (ze #[.bool bd.bol,.bool bd.eol,.slice oL bd.nodes.length oM] 115)=W2:=⟨_,rfl⟩;have VM:zg wr.heap.size wr W2:=by rw[<-fe];exact ax
     have x2:W2.heap[wr.heap.size]?=zb (ze #[.bool bd.bol,.bool bd.eol,.slice oL bd.nodes.length oM] 115 (0,0)):=by rw[<-fe];exact aJ _ _
     have ir:=(hI.below VM).below (Below.refl _ _).drew;have SU:W2.drew.heap[wr.heap.size]?=zb (ze #[.bool bd.bol,.bool bd.eol,.slice oL bd.nodes.length oM] 115 (0,0)):=x2;have crd:=zrf w bd.bol bd.eol oL oM bd.nodes W2.drew zyi ir.bl jp vW;have cwr:∀(W3:zh) (gl cl gr cr:Nat),zg W2.drew.heap.size W2.drew W3->Ar w W3 bd.nodes (.slice oL bd.nodes.length oM) gl gr->zm prog 67 #[.pointer (zb ⟨p,0,za⟩),zk #[.slice oL bd.nodes.length oM,zc (zb ⟨gl,0,za⟩) bd.nodes.length cl,zc (zb ⟨gr,0,za⟩) bd.nodes.length cr,.string ⟨#[]⟩],zd .i64 ((bd.nodes.length-1:Nat):Int)] W3 λe W4=>∃(i:Nat) (sF:zf) (Ms:List bB) (T:GT),e=.returned (zd .i64 i)/\Hid (Ns.length+Ms.length-1=i)/\DM w p W4 sF (.slice Ji X.length Jj) Ns Ms X T (fA 0 (rs.take k)++(wN k rd.branches).take j) (oZ (rs.take k)+pK (rd.branches.take j)) (iG (wT bd)) (dO (wT bd))/\W4.heap[wr.heap.size]?=zb (ze #[.bool bd.bol,.bool bd.eol,.slice oL bd.nodes.length oM] 115 (0,0)):=by
      intro W3 gl cl gr cr h3 dJ;have i3:=ir.below h3;refine(zr2 w bd.nodes (TH vW) pU (bd.nodes.length-1) (by omega) p W3 oL oM gl cl gr cr nv (.slice Ji X.length Jj) Ns dJ i3.wt i3.bl (by have:=HP.out;omega) hct).mono ?_;rintro e W4 ⟨sF,Ms,T,rfl,SS,tt4,N6⟩;exact⟨_,sF,Ms,T,rfl,rfl,i3.write HP.out N6 SS tt4,N6.E3 _ _ _ ((h3.block _ (ay SU)).trans SU) (by decide) (by decide)⟩
     obtain⟨q0,q1,q2⟩:=ZW x2;have vx:=ag SU;have lI:=ag fe;have HCB:=ag mP;have HBT:=ag vS;clear sj zyi hI VM x2 SU ir fe mP zBr vS hct vW pU pi
     go_upto_region 8 with fail
     rw[lI.out];clear lI d0 d1 d2
     go_cut [8] from 25 to 49 (λtv wx=>∃(i1:Nat) (Kt:zf) (Ms:List bB) (T:GT),tv=zd .i64 i1/\Hid (Ns.length+Ms.length-1=i1)/\DM w p wx Kt (.slice Ji X.length Jj) Ns Ms X T (fA 0 (rs.take k)++(wN k rd.branches).take j) (oZ (rs.take k)+pK (rd.branches.take j)) (iG (wT bd)) (dO (wT bd))/\wx.heap[wr.heap.size]?=zb (ze #[.bool bd.bol,.bool bd.eol,.slice oL bd.nodes.length oM] 115 (0,0)))
     case first=>
      go_region_with (first
       |(go_at_call 68;refine crd.mono ?_;rintro e W3 ⟨b3,gl,cl,gr,cr,rfl,dJ⟩;obtain⟨q0,q1,q2⟩:=ZW ((b3.block _ (ay vx.out)).trans vx.out))
       |(go_at_call 67;refine(cwr _ _ _ _ _ b3 dJ).mono ?_;rintro e W4 ⟨i1,Kt,Ms,T,rfl,Vs,J4,x4⟩))
      all_goals
       go_wp2_with fail
       go_meet
       exact⟨i1,Kt,Ms,T,rfl,Vs,J4,x4⟩
     case rest=>
      obtain⟨i1,Kt,Ms,T,rfl,Vs,J4,x4⟩:=hcut;obtain⟨q0,q1,q2⟩:=ZW x4;obtain⟨p0,p1⟩:=dV J4.wt.box;have du:=ay J4.wt.box;have CB:=ay x4;have bL:∀W5,zg wc.heap.size wc W5->W5.ownsRow (p+1) 121 4 (.slice Ji X.length Jj) X.length (BR X):=λW5 h5=>(J4.below h5).bo
      have hdone:∀(W5 W9:zh) (g oY:Nat),zg wc.heap.size wc W5->W9.ownsRow (p+1) 121 4 (zc (zb ⟨g,0,za⟩) (X.length+1) oY) (X.length+1) (BR X++[zd .i64 (k:Nat),.bool bd.bol,.bool bd.eol,zd .i64 (i1:Int)])->W5.grownBy W9 (Value.slice Ji X.length Jj).ownBlock->_:=λW5 W9 g oY h5 h6 h7=>J4.done (i:=k) (bol:=bd.bol) (eol:=bd.eol) HP.out h5 (by rw[Vs.out];exact h6) h7
      have HD:=ag hdone;have HX4:=ag x4;clear hdone J4 x4 crd cwr
      go_upto_region 9 with fail
      go_region_law ((refine step_append_lies _ (by rfl) (.tmp 37) (.tmp 45) 87 (by rfl) (p+1) 121 i0 _ 4 24 underlying87 hi da dt cR rfl (by omega) (.slice Ji X.length Jj) X.length (BR X) (by rfl) (bL _ (by first|exact((Below.refl _ _).drew.alloc (aq _) _)|exact(ax).drew)) ⟨wc.heap.size,0,za⟩ 1 1 [zd .i64 (k:Nat),.bool bd.bol,.bool bd.eol,zd .i64 (i1:Int)] (by rfl) rfl (zlv (by first|exact aJ _ _|exact sL (aJ _ _))) (by intro u hu;simp at hu;rcases hu with rfl|rfl|rfl|rfl<;>rfl) (by omega) (by unfold maxLen;omega) (by omega) (by simp;omega) (wc.heap.size+1) (by simp) ?_;intro g oY w9 lQ eK at9 CF;obtain⟨Jl,I9,k9⟩:=HD.out _ w9 g oY (by first|exact((Below.refl _ _).drew.alloc (aq _) _)|exact(ax).drew) lQ eK;obtain⟨y0,y1⟩:=dV Jl;have f9:=aM _ _ 1 _ _ Jl))
      all_goals
       rw[gJ (fA 0 (rs.take k)),yC (oZ (rs.take k)),<-HBT.out,<-HCB.out]at I9;have LU:=ag I9;clear I9 k9 lQ eK;go_wp2
       go_roundw
       case rel=>exact⟨j+1,_,_,_,_,by omega,by go_num,LU.out⟩
       case measure=>simp[intOf];omega
    ·have qy:j=rd.branches.length:=by omega
     have HI:=ag hI;clear hI;have hne:¬(j:Int)<(rd.branches.length:Int):=by omega
     go_wp2
     go_roundw
     case rel=>
      refine⟨k+1,nv,bv,Ns,X,by omega,by go_num,?_⟩;have:=HI.out;rw[qy,show (wN k rd.branches).take rd.branches.length=wN k rd.branches from sX (by simp[wN]),show rd.branches.take rd.branches.length=rd.branches from sW]at this;rw[HBK.out,Uy.out];exact this
     case measure=>simp[intOf];omega
  ·have cC:k=rs.length:=by omega
   obtain⟨no,nc,rfl⟩:=hI.wt.form;obtain⟨bo,bc,rfl⟩:=hI.zx0;rw[cC,sW]at hI;have hsp:=hI.spx HP.out HW.out.ct;obtain⟨p0,p1⟩:=dV hI.wt.box;obtain⟨r0,r1⟩:=dV hI.bw;have g0:=aM _ _ 0 _ _ hI.bw;have g1:=aM _ _ 1 _ _ hI.bw;have r2:=cJ wr w.heap.size 0 _ _ (.slice no Ns.length nc) hI.bw;have r3:=cJ _ w.heap.size 1 _ _ (.slice bo X.length bc) r2;obtain⟨t0,t1⟩:=dV r3;have qZ:=ag hsp;have PI:=ag hI.eq;have hne:¬(k:Int)<(rs.length:Int):=by omega
   clear hI hsp;go_wp2;refine aW (v:=zk #[.slice no Ns.length nc,.slice bo X.length bc]) (by simp[results,results54,go_sem,t0,t1]) rfl ?_
   first|exact⟨_,_,rfl,Ns,X,qZ.out.1,PI.out,qZ.out.2⟩|exact⟨_,_,rfl,⟨Ns,X,qZ.out.1,PI.out⟩,qZ.out.2⟩|exact⟨_,_,rfl,Ns,⟨X,qZ.out.1,PI.out⟩,qZ.out.2⟩|exact⟨_,_,⟨rfl,Ns,X,qZ.out.1,PI.out⟩,qZ.out.2⟩|(trace_state;fail)
section
variable {c k:Nat}{bs:List dn}{w0 w W W':zh}{nv bv:zf}{Ns:List bB}{X:Xs}{v:Nat -> zf}{l:Nat -> List Int}
theorem zsE(l:List Nat){k:Nat}(h:k<l.length):∃x,l[k]?=zb x/\l.getD k 0=x:=⟨l[k],bE h,by simp[List.getD,h]⟩
theorem zsp{K:Nat}{R:Nat->Nat->Nat}(h:∀j,j<(aY K R c).length->lC K R ((aY K R c).getD j 0) c=false):fN K R c=(aY K R c).length:=by
 rcases iX (fN K R c) (aY K R c).length with hl|hl
 ·have:=(O8 (K:=K) (R:=R) (c:=c) hl).2 rfl;rw[h _ hl]at this;cases this
 ·have:fN K R c<=(aY K R c).length:=LG;omega
theorem zvl(hk:k<(mb bs c).length)(h:Ds bs ((mb bs c).getD k 0) c):xy bs c=k/\mb bs (c+1)=mb bs c:=by
 have h1:xy bs c=k:=(O8 hk).1 ((znt bs _ c).2 h);refine⟨h1,?_⟩;unfold mb;rw[yg,af (show fN (mg bs).length (mY bs) c<(aY (mg bs).length (mY bs) c).length from by rw[show fN (mg bs).length (mY bs) c=k from h1];exact hk)]
theorem zvk(h:∀k,k<(mb bs c).length->¬Ds bs ((mb bs c).getD k 0) c):xy bs c=(mb bs c).length/\mb bs (c+1)=mb bs c++[c]:=by
 have h1:xy bs c=(mb bs c).length:=zsp λj hj=>by
  have:=h j hj;rw[<-znt]at this;exact Bool.eq_false_iff.2 this
 refine⟨h1,?_⟩;unfold mb;rw[yg,ab (show ¬fN (mg bs).length (mY bs) c<(aY (mg bs).length (mY bs) c).length from by rw[show fN (mg bs).length (mY bs) c=_ from h1];exact Nat.lt_irrefl _)]
def vE(w0 w wr W:zh)(nv bv:zf)(Ns:List bB)(X:Xs)(v:Nat->zf)(l:Nat->List Int)(k a b s:zf):Prop:=W.heap[wr.heap.size]?=zb (ze #[k,a,b,s] 124 (0,0))/\pF w0 w W nv bv Ns X v l/\W.cell? ⟨wr.heap.size,0,za⟩=zb k/\W.cell? ⟨wr.heap.size,3,za⟩=zb s
theorem vE.call{wr:zh}{k a b s:zf}(h:vE w0 w wr W nv bv Ns X v l k a b s)(hb:zg W.heap.size W W'):vE w0 w wr W' nv bv Ns X v l k a b s:=by
 obtain⟨h1,h2,-,-⟩:=h;have h3:=(hb.block _ (ay h1)).trans h1;obtain⟨q0,-,-,q3⟩:=eG h3;exact⟨h3,h2.call hb,q0,q3⟩
theorem pF.app(h:pF w0 w W nv bv Ns X v l)(hS:xp w0 w nv bv Ns X){i:Nat}(hi:i<2){u:zf}{ys:List Int}(hF:aI w.heap.size 2 W' (upd v i u) (bG l i ys))(hg:W.grownBy W' (v i).ownBlock):pF w0 w W' nv bv Ns X (upd v i u) (bG l i ys):=by
 have hb:zg w.heap.size w W':=h.bl.grown hg h.bl.size (λk hk=>by have:=dG (h.au.own i hi) hk;omega);exact⟨h.au.others hi hg (by decide) h.box,hS.below hb,hF,hb⟩
theorem ztZ(h1:xy bs c=k)(h2:mb bs (c+1)=mb bs c):bG (jm bs c) 0 (rb bs c++[(k:Int)])=jm bs (c+1):=by
 funext i
 by_cases hi:i=0
 ·subst hi;rw[jj];show _=rb bs (c+1);rw[zkF,h1]
 ·rw[eO _ _ hi];unfold jm;rw[ab hi,ab hi,h2]
theorem ztY(h0:(mb bs c).length=k)(h1:xy bs c=(mb bs c).length)(h2:mb bs (c+1)=mb bs c++[c]):bG (bG (jm bs c) 1 (dy (mb bs c)++[(c:Int)])) 0 (rb bs c++[(k:Int)])=jm bs (c+1):=by
 funext i
 by_cases hi:i=0
 ·subst hi;rw[jj];show _=rb bs (c+1);rw[zkF,h1,h0]
 ·rw[eO _ _ hi]
  by_cases hj:i=1
  ·subst hj;rw[jj];unfold jm;rw[ab hi,af rfl,h2];simp[dy]
  ·rw[eO _ _ hj];unfold jm;rw[ab hi,ab hi,ab hj,ab hj]
theorem zo5(w0 w:zh)(nv bv:zf)(Ns:List bB)(X:Xs)(hS:xp w0 w nv bv Ns X):
  zm prog 55 #[zk #[nv,bv]] w λe W=>∃v,e=.returned (.tuple #[v 0,v 1])/\aI w.heap.size 2 W v (jm (aF X) 256)/\zg w.heap.size w W:=by
 have jo:=hS.nx.len;obtain⟨no,pk,rfl,-⟩:=hS.nx.at_;obtain⟨W0,aw⟩:∃W0,((w.alloc (ze #[.slice no Ns.length pk,bv] 89)).alloc (ze #[] 3)).alloc (ze #[] 3)=W0:=⟨_,rfl⟩;have oB:pF w0 w W0 (.slice no Ns.length pk) bv Ns X (upd (upd (λ_=>zc za 0 0) 0 (zc (zb ⟨w.heap.size+1,0,za⟩) 0 0)) 1 (zc (zb ⟨w.heap.size+2,0,za⟩) 0 0)) (jm (aF X) 0):=by
  subst aw;have b0:zg w.heap.size w (w.alloc (ze #[.slice no Ns.length pk,bv] 89)):=ax;have x0:(w.alloc (ze #[.slice no Ns.length pk,bv] 89)).heap[w.heap.size]?=zb (ze #[.slice no Ns.length pk,bv] 89 (0,0)):=aJ _ _;have f0:aI w.heap.size 0 (w.alloc (ze #[.slice no Ns.length pk,bv] 89)) (λ_=>zc za 0 0) (λ_=>[]):=aI.nil _ _ _;have f1:=f0.new (by simp);have f2:=f1.new (by simp);have b1:zg w.heap.size w (((w.alloc (ze #[.slice no Ns.length pk,bv] 89)).alloc (ze #[] 3)).alloc (ze #[] 3)):=(b0.alloc (by simp) _).alloc (by simp;omega) _;refine⟨qK (qK x0),hS.below b1,?_,b1⟩;refine f2.congr (λi hi=>?_) (λi hi=>?_)
  ·rcases i with _|_|i
   ·simp[upd]
   ·simp[upd]
   ·omega
  ·rcases i with _|_|i
   ·simp[bG,jm,rb]
   ·simp[bG,jm,mb,aY,dy]
   ·omega
 have bD:=ag aw;have HS:=ag hS;clear aw hS
 go_enter func55,ntmps55
 go_upto_region 3 with fail
 rw[bD.out];clear bD
 go_wp2_with fail
 go_loopw [4,5,6] (λcv hv ci wr=>∃(c:Nat) (v:Nat->zf),c<=256/\ci=zd .i64 c/\cv=v 0/\hv=v 1/\pF w0 w wr (.slice no Ns.length pk) bv Ns X v (jm (aF X) c)) (λ_ _ i _=>256-(intOf i).toNat)
 case atStart=>exact⟨0,upd (upd (λ_=>zc za 0 0) 0 (zc (zb ⟨w.heap.size+1,0,za⟩) 0 0)) 1 (zc (zb ⟨w.heap.size+2,0,za⟩) 0 0),by omega,rfl,rfl,rfl,oB⟩
 case round=>
  obtain⟨c,v,hc,rfl,rfl,rfl,hI⟩:=hrel;clear oB
  by_cases hlt:c<256
  ·have zBR:(c:Int)<256:=by omega
   obtain⟨hl,Ey⟩:∃hl,mb (aF X) c=hl:=⟨_,rfl⟩;have zDD:hl.length<=256:=by rw[<-Ey];have:=KV (mg (aF X)).length (mY (aF X)) c;unfold mb;omega
   have h1:jm (aF X) c 1=dy hl:=by unfold jm;rw[ab (by omega),af rfl,Ey]
   have h0:jm (aF X) c 0=rb (aF X) c:=rfl;have zyW:∀k,k<hl.length->hl.getD k 0<256:=λk hk=>by
    obtain⟨x,e1,e2⟩:=zsE hl hk;rw[e2];have:=Il (mg (aF X)).length (mY (aF X)) c x (by show x∈mb (aF X) c;rw[Ey];exact IL e1);omega
   have LS:=ag Ey;have H1:=ag h1;have H0:=ag h0;have HLT:=ag zyW;obtain⟨⟨ao,cp⟩,e1⟩:=dQ (hI.au.own 1 (by omega));rw[h1,gV]at e1;have jl:=ag e1;clear Ey h1 h0 zyW;have HI:=ag hI;clear hI;rw[e1];clear e1
   go_wp2_with fail
   go_loopw [7,21] (λcl ki W=>∃k:Nat,k<=hl.length/\ki=zd .i64 k/\cl=zd .i64 (-1)/\pF w0 w W (.slice no Ns.length pk) bv Ns X v (jm (aF X) c)/\∀j,j<k->¬Ds (aF X) (hl.getD j 0) c) (λ_ i _=>hl.length-(intOf i).toNat)
   case atStart=>exact⟨0,by omega,rfl,rfl,HI.out,λj h=>absurd h (by omega)⟩
   case round=>
    obtain⟨k,hk,rfl,rfl,hI,hno⟩:=hrel;have yN:=ag hno;clear hno
    by_cases dY:k<hl.length
    ·have eC:(0:Int)<=(k:Int):=by omega
     have dg:(k:Int)<(hl.length:Int):=by omega
     obtain⟨gh,ch,My,hgh,-,hcell⟩:=C7 (hI.au.own 1 (by omega)) (by rw[H1.out,gV];omega);rw[jl.out,H1.out,gV]at My;cases My;have ck:=hcell k (by rw[H1.out,gV];exact dY);rw[H1.out,A2]at ck;have hh:=HLT.out k dY;obtain⟨p0,p1⟩:=dV hI.box;obtain⟨h,uJ⟩:∃h,hl.getD k 0=h:=⟨_,rfl⟩;rw[uJ]at ck hh;have Bz:=ag uJ;have nz:=ag hI;clear hcell uJ hI
     go_wp2_with fail
     go_loopw [10,29] (λsm ni W2=>∃i:Nat,i<=Ns.length/\ni=zd .i64 i/\sm=.bool true/\pF w0 w W2 (.slice no Ns.length pk) bv Ns X v (jm (aF X) c)/\Bq X h c i) (λ_ i _=>Ns.length-(intOf i).toNat)
     case atStart=>exact⟨0,by omega,rfl,rfl,nz.out,λ_ _ _ _ _ q=>absurd q (by omega)⟩
     case round=>
      obtain⟨i,hi,rfl,rfl,hI,xK⟩:=hrel;have LI:=ag xK;clear xK p0 p1 ck
      by_cases oF:i<Ns.length
      ·have hx:=bE oF;obtain⟨nd,Cr⟩:∃nd,Ns[i]=nd:=⟨_,rfl⟩;rw[Cr]at hx;clear Cr;have GL:(0:Int)<=(i:Int):=by omega
       have se:(i:Int)<(Ns.length:Int):=by omega
       rcases hI.sp.al i nd hx with ⟨vV,k5,y,j,hy,hj,fV⟩|⟨vV,lK,jF⟩
       ·obtain⟨sv,rs,e1,e2,e3⟩:=(hI.sp.tr k5 y hy).pos hj;rw[fV]at e1;have e2':=e2;obtain⟨eA,eB,rfl,-⟩:=e2';obtain⟨gn,cn,hne,-,zt,c0,c1,c2,c3⟩:=hI.sp.nx.node e1;cases hne;obtain⟨W2,fe⟩:∃W2,wr.alloc (ze #[.int .u8 115,zd .i64 0,zd .i64 0,.slice eA rs.length eB] 124)=W2:=⟨_,rfl⟩;have b2:zg wr.heap.size wr W2:=by rw[<-fe];exact ax
        have x2:W2.heap[wr.heap.size]?=zb (ze #[.int .u8 115,zd .i64 0,zd .i64 0,.slice eA rs.length eB] 124 (0,0)):=by rw[<-fe];exact aJ _ _
        obtain⟨q0,q1,q2,q3⟩:=eG x2;have Ww:vE w0 w wr W2 (zc (zb ⟨gn,0,za⟩) Ns.length pk) bv Ns X v (jm (aF X) c) (.int .u8 115) (zd .i64 0) (zd .i64 0) (.slice eA rs.length eB):=⟨x2,hI.call b2,q0,q3⟩;have ME:=Ww.call (Below.refl _ _).drew;have Dx:=ag ME;obtain⟨bz,ez⟩:∃bz:Nat->Bool,bz=λz=>y.2.ga.st j z:=⟨_,rfl⟩
        have cH:∀W,vE w0 w wr W (zc (zb ⟨gn,0,za⟩) Ns.length pk) bv Ns X v (jm (aF X) c) (.int .u8 115) (zd .i64 0) (zd .i64 0) (.slice eA rs.length eB)->∀z:Nat,z<256->∀zi:Int,zi=z->zm prog 69 #[.slice eA rs.length eB,.int .u8 zi] W λe W'=>e=.returned (.bool (bz z))/\zg W.heap.size W W':=λW hW z hz zi hzi=>by
         subst hzi;have:=ztF (.slice eA rs.length eB) rs z W (e2.below hW.2.1.sp.bl) hz;rw[e3 z]at this;rw[ez];exact this
        have iw:bz h=bz c->Bq X h c (i+1):=λhe=>LI.out.next hI.sp.cK hy hj fV (by rw[ez]at he;exact he)
        have hsp:bz h≠bz c->¬Ds (aF X) (hl.getD k 0) c:=λhe H=>by
         rw[Bz.out]at H;apply he;rw[ez];exact H k5 _ j (Lh hy) hj
        have mG:=ag iw;have qZ:=ag hsp;have lI:=ag fe;have xV:=zu7 hlt;have hwh:=zu7 hh;clear fe hI hx x2 Ww ME e1 e2 e3 hy hj fV ez iw hsp b2 vV
        go_upto_region 14 with fail
        rw[lI.out];clear lI c0 c1 c2 c3;cases tJ:bz c<;>cases Rv:bz h
        ·skip
         go_region_held3 (λw'=>w'.heap[wr.heap.size]?=zb (ze #[.int .u8 115,zd .i64 0,zd .i64 0,.slice eA rs.length eB] 124 (0,0))/\pF w0 w w' (zc (zb ⟨gn,0,za⟩) Ns.length pk) bv Ns X v (jm (aF X) c)/\w'.cell? ⟨wr.heap.size,0,za⟩=zb (.int .u8 115)/\w'.cell? ⟨wr.heap.size,3,za⟩=zb (.slice eA rs.length eB))
          ((first|exact Dx.out|exact vE.call (show vE w0 w wr _ (zc (zb ⟨gn,0,za⟩) Ns.length pk) bv Ns X v (jm (aF X) c) (.int .u8 115) (zd .i64 0) (zd .i64 0) (.slice eA rs.length eB) from by assumption) b1|go_keep))
          ((go_at_call 69;refine(cH _ (by first|exact Dx.out|assumption) _ ?hz _ rfl).mono ?_;(case hz=>first|exact hlt|exact hh);rintro e W1 ⟨rfl,b1⟩))
         all_goals
          have pQ:=‹_/\pF _ _ _ _ _ _ _ _ _/\_›;go_wp2
          go_roundw
          case rel=>exact⟨i+1,by omega,by go_num,rfl,pQ.2.1,mG.out (by rw[tJ,Rv])⟩
          case measure=>simp[intOf];omega
        ·skip
         go_region_held3 (λw'=>w'.heap[wr.heap.size]?=zb (ze #[.int .u8 115,zd .i64 0,zd .i64 0,.slice eA rs.length eB] 124 (0,0))/\pF w0 w w' (zc (zb ⟨gn,0,za⟩) Ns.length pk) bv Ns X v (jm (aF X) c)/\w'.cell? ⟨wr.heap.size,0,za⟩=zb (.int .u8 115)/\w'.cell? ⟨wr.heap.size,3,za⟩=zb (.slice eA rs.length eB))
          ((first|exact Dx.out|exact vE.call (show vE w0 w wr _ (zc (zb ⟨gn,0,za⟩) Ns.length pk) bv Ns X v (jm (aF X) c) (.int .u8 115) (zd .i64 0) (zd .i64 0) (.slice eA rs.length eB) from by assumption) b1|go_keep))
          ((go_at_call 69;refine(cH _ (by first|exact Dx.out|assumption) _ ?hz _ rfl).mono ?_;(case hz=>first|exact hlt|exact hh);rintro e W1 ⟨rfl,b1⟩))
         all_goals
          have pQ:=‹_/\pF _ _ _ _ _ _ _ _ _/\_›;go_wp2
          go_roundw
          case rel=>exact⟨k+1,by omega,by go_num,rfl,pQ.2.1,λj hj=>by
           rcases iX j k with q|q
           ·exact yN.out j q
           ·obtain rfl:j=k:=by omega
            exact qZ.out (by rw[tJ,Rv];simp)⟩
          case measure=>simp[intOf];omega
        ·skip
         go_region_held3 (λw'=>w'.heap[wr.heap.size]?=zb (ze #[.int .u8 115,zd .i64 0,zd .i64 0,.slice eA rs.length eB] 124 (0,0))/\pF w0 w w' (zc (zb ⟨gn,0,za⟩) Ns.length pk) bv Ns X v (jm (aF X) c)/\w'.cell? ⟨wr.heap.size,0,za⟩=zb (.int .u8 115)/\w'.cell? ⟨wr.heap.size,3,za⟩=zb (.slice eA rs.length eB))
          ((first|exact Dx.out|exact vE.call (show vE w0 w wr _ (zc (zb ⟨gn,0,za⟩) Ns.length pk) bv Ns X v (jm (aF X) c) (.int .u8 115) (zd .i64 0) (zd .i64 0) (.slice eA rs.length eB) from by assumption) b1|go_keep))
          ((go_at_call 69;refine(cH _ (by first|exact Dx.out|assumption) _ ?hz _ rfl).mono ?_;(case hz=>first|exact hlt|exact hh);rintro e W1 ⟨rfl,b1⟩))
         all_goals
          have pQ:=‹_/\pF _ _ _ _ _ _ _ _ _/\_›;go_wp2
          go_roundw
          case rel=>exact⟨k+1,by omega,by go_num,rfl,pQ.2.1,λj hj=>by
           rcases iX j k with q|q
           ·exact yN.out j q
           ·obtain rfl:j=k:=by omega
            exact qZ.out (by rw[tJ,Rv];simp)⟩
          case measure=>simp[intOf];omega
        ·skip
         go_region_held3 (λw'=>w'.heap[wr.heap.size]?=zb (ze #[.int .u8 115,zd .i64 0,zd .i64 0,.slice eA rs.length eB] 124 (0,0))/\pF w0 w w' (zc (zb ⟨gn,0,za⟩) Ns.length pk) bv Ns X v (jm (aF X) c)/\w'.cell? ⟨wr.heap.size,0,za⟩=zb (.int .u8 115)/\w'.cell? ⟨wr.heap.size,3,za⟩=zb (.slice eA rs.length eB))
          ((first|exact Dx.out|exact vE.call (show vE w0 w wr _ (zc (zb ⟨gn,0,za⟩) Ns.length pk) bv Ns X v (jm (aF X) c) (.int .u8 115) (zd .i64 0) (zd .i64 0) (.slice eA rs.length eB) from by assumption) b1|go_keep))
          ((go_at_call 69;refine(cH _ (by first|exact Dx.out|assumption) _ ?hz _ rfl).mono ?_;(case hz=>first|exact hlt|exact hh);rintro e W1 ⟨rfl,b1⟩))
         all_goals
          have pQ:=‹_/\pF _ _ _ _ _ _ _ _ _/\_›;go_wp2
          go_roundw
          case rel=>exact⟨i+1,by omega,by go_num,rfl,pQ.2.1,mG.out (by rw[tJ,Rv])⟩
          case measure=>simp[intOf];omega
       ·obtain⟨kk,ll,rr,sv⟩:=nd;have jF:sv=zc za 0 0:=jF;subst jF;have vV:kk≠115:=vV;obtain⟨gn,cn,hne,-,zt,c0,c1,c2,c3⟩:=hI.sp.nx.node hx;cases hne;have uK:¬(kk:Int)=115:=by omega
        obtain⟨W2,fe⟩:∃W2,wr.alloc (ze #[.int .u8 kk,zd .i64 ll,zd .i64 rr,zc za 0 0] 124)=W2:=⟨_,rfl⟩;have b2:zg wr.heap.size wr W2:=by rw[<-fe];exact ax
        have x2:W2.heap[wr.heap.size]?=zb (ze #[.int .u8 kk,zd .i64 ll,zd .i64 rr,zc za 0 0] 124 (0,0)):=by rw[<-fe];exact aJ _ _
        obtain⟨q0,q1,q2,q3⟩:=eG x2;have zyp:=LI.out.skip hx vV (λk y j hy hj=>by obtain⟨sv,rs,h1,-⟩:=(hI.sp.tr k y hy).pos hj;exact⟨sv,h1⟩);have zzU:=ag zyp;have ir:=hI.call b2;have jS:=ag ir;have lI:=ag fe;clear fe zyp ir hI hx x2
        go_upto_region 14 with fail
        rw[lI.out];clear lI c0 c1 c2 c3
        go_quiet (fail)
        go_wp2
        go_roundw
        case rel=>exact⟨i+1,by omega,by go_num,rfl,jS.out.call ⟨rfl,rfl,rfl,aq _,λ_ _=>rfl⟩,zzU.out⟩
        case measure=>simp[intOf];omega
      ·have hie:i=Ns.length:=by omega
       have xK:Ds (aF X) (hl.getD k 0) c:=by
        have:=LI.out;rw[hie]at this;rw[Bz.out];exact(zr7 HS.out.cK).1 this
       obtain⟨aV,Nd⟩:=zvl (bs:=aF X) (c:=c) (k:=k) (by rw[LS.out];exact dY) (by rw[LS.out];exact xK);have vt:=ag aV;have UC:=ag Nd;obtain⟨⟨a0,p0⟩,e0⟩:=dQ (hI.au.own 0 (by omega));rw[H0.out,Lb]at e0;have iZ:=ag e0;have kz:¬(k:Int)<0:=by omega
       have hsz:w.heap.size+1<=wr.heap.size:=ay hI.box;have eT:=ag hI;clear xK aV Nd e0 hI hie;have hne:¬(i:Int)<(Ns.length:Int):=by omega
       go_wp2_with (at_builtin;refine kJ eT.out.au _ rfl rfl (.tmp 61) (.tmp 63) rfl 0 (by omega) (rb (aF X) c) H0.out c (Lb _ _) (by exact rfl) (k:Int) rfl (by omega) hsz ?_;intro g4 c4 W9 Ee GJ)
       go_roundw
       case rel=>
        refine⟨c+1,upd v 0 (zc (zb ⟨g4,0,za⟩) (c+1) c4),by omega,by go_num,rfl,?_,?_⟩
        ·rw[eF _ _ (by omega),jl.out]
        ·have:=eT.out.app HS.out (by omega) Ee GJ;rw[ztZ vt.out UC.out]at this;exact this
       case measure=>simp[intOf];omega
    ·have cC:k=hl.length:=by omega
     obtain⟨aV,Nd⟩:=zvk (bs:=aF X) (c:=c) (by rw[LS.out,<-cC];exact yN.out);have vt:=ag aV;have UC:=ag Nd;obtain⟨⟨a0,p0⟩,e0⟩:=dQ (hI.au.own 0 (by omega));rw[H0.out,Lb]at e0;have iZ:=ag e0;have hsz:w.heap.size+1<=wr.heap.size:=ay hI.box;have eT:=ag hI;have hne:¬(k:Int)<(hl.length:Int):=by omega
     clear aV Nd e0 hI cC
     go_wp2_with (first
      |(at_builtin;refine kJ eT.out.au _ rfl rfl (.tmp 57) (.tmp 59) rfl 1 (by omega) (dy hl) H1.out hl.length (gV _) (by exact jl.out.symm) (c:Int) rfl (by omega) hsz ?_;intro g4 c4 W9 Ee GJ;have FP:=ag (eT.out.app HS.out (by omega) Ee GJ);clear Ee GJ;have NW:w.heap.size+1<=W9.heap.size:=ay FP.out.box)
      |(at_builtin;refine kJ FP.out.au _ rfl rfl (.tmp 61) (.tmp 63) rfl 0 (by omega) (rb (aF X) c) (by rw[eO _ _ (by omega)];exact H0.out) c (Lb _ _) (by rw[eF _ _ (by omega)];rfl) (hl.length:Int) rfl (by omega) NW ?_;intro g6 c6 VL rZ sb))
     go_roundw
     case rel=>
      refine⟨c+1,upd (upd v 1 (zc (zb ⟨g4,0,za⟩) (hl.length+1) c4)) 0 (zc (zb ⟨g6,0,za⟩) (c+1) c6),by omega,by go_num,rfl,?_,?_⟩
      ·rw[eF _ _ (by omega)];rfl
      ·have:=FP.out.app HS.out (by omega) rZ sb;have e:=ztY (bs:=aF X) (c:=c) (k:=hl.length) (by rw[LS.out]) vt.out UC.out;rw[LS.out]at e;rw[e]at this;exact this
     case measure=>simp[intOf];omega
  ·have hcc:c=256:=by omega
   have HI:=ag hI;clear hI;have hne:¬(c:Int)<256:=by omega
   go_wp2;refine aW (v:=.tuple #[v 0,v 1]) (by simp[results,results55,go_sem]) rfl ⟨v,rfl,?_,HI.out.bl⟩;have:=HI.out.au;rw[hcc]at this;exact this
end
section
variable {W W' Wb W1:zh}{g gt n N db:Nat}{v:Nat -> zf}{gs:Nat -> Nat}{X:Xs}{width:Int}{ls:Nat -> List Int}{sv:zf}{L:List St}
structure KT(T:zj)(W W':zh):Prop where
 os:W'.os=W.os
 tape:W'.tape=W.tape
 output:W'.output=W.output
 size:W.heap.size<=W'.heap.size
 keep:∀(k:Nat) (cs:Array zf) (t:zj),W.heap[k]?=zb (ze cs t (0,0))->t≠T->W'.heap[k]?=zb (ze cs t (0,0))
theorem KT.Y1{T:zj}{o:Option Nat}(h:W.grownBy W' o)(ho:∀g,o=zb g->∃cs,W.heap[g]?=zb (ze cs T (0,0))):KT T W W':=
 ⟨h.os,h.tape,h.output,h.size,λk cs t e ht=>(h.block k (ay e) (λe2=>by
  obtain⟨D6,e3⟩:=ho k e2.symm;rw[e]at e3;exact ht (OD e3))).trans e⟩
theorem KT.put{T:zj}{o:Nat}{u:zf}{cs:Array zf}(h:W.heap[g]?=zb (ze cs T (0,0))):KT T W (W.setCell ⟨g,o,za⟩ u):=
 .Y1 (TB W g o u) λg' e=>by cases e;exact⟨cs,h⟩
theorem aI.kt{T:zj}{l:Nat->List Int}(h:aI gt n W v l)(k:KT T W W')(hT:T≠3):aI gt n W' v l:=
 h.AX λi hi b hb=>by
  obtain⟨aZ,e⟩:=wG (h.own i hi) hb;exact(k.keep b _ _ e hT.symm).trans e.symm
theorem zjk{T e:zj}{B sz:Nat}{v:zf}{xs:List zf}(h:W.ownsRow B e sz v n xs)(k:KT T W W')(hT:T≠e):W'.ownsRow B e sz v n xs:=
 ub h λb hb=>by
  obtain⟨aZ,e⟩:=KW h hb;exact(k.keep b _ _ e hT.symm).trans e.symm
theorem gZ.kt{T:zj}{m:Nat->Bool}(h:gZ W g N m)(k:KT T W W')(hT:T≠4):gZ W' g N m:=k.keep _ _ _ h hT.symm
def yA(gs:Nat->Nat)(N n:Nat):List zf:=(List.range n).map λk=>zc (zb ⟨gs k,0,za⟩) N N
theorem zpq(gs:Nat->Nat)(N n:Nat):yA gs N (n+1)=yA gs N n++[zc (zb ⟨gs n,0,za⟩) N N]:=by simp[yA,List.range_succ]
theorem znh{gs':Nat->Nat}(h:∀k,k<n->gs k=gs' k):yA gs N n=yA gs' N n:=by
 unfold yA;apply Ak;intro k hk;rw[h k (qm.1 hk)]
structure lE(Wb:zh)(gt db:Nat)(W:zh)(X:Xs)(N:Nat)(width:Int)(v:Nat->zf)(ls:Nat->List Int)(sv:zf)(gs:Nat->Nat)(L:List St):Prop where
 gz:Wb.heap.size=gt
 bg:zg gt Wb W
 Jp:gt<=db
 AL:W.heap[db]?=zb (ze (iF width v) 25 (0,0))
 au:aI gt 5 W v ls
 out:W.ownsRow (gt+1) 93 1 sv L.length (yA gs N L.length)
 row:∀k,k<L.length->gt<=gs k/\∃m,gZ W (gs k) N m/\vB X N m (L.getD k fT)/\F8 X (L.getD k fT)
theorem lE.call(h:lE Wb gt db W X N width v ls sv gs L)(hb:zg W.heap.size W W'):lE Wb gt db W' X N width v ls sv gs L:=by
 have hl:=ay h.AL;have:=h.Jp;exact⟨h.gz,h.bg.trans (hb.mono (by omega)),h.Jp,(hb.block _ hl).trans h.AL,h.au.below hb,ub h.out λb kT=>hb.block b (dU h.out kT).2,λk hk=>by
  obtain⟨h1,m,h2,h3⟩:=h.row k hk;exact⟨h1,m,h2.below hb,h3⟩⟩
theorem lE.size(h:lE Wb gt db W X N width v ls sv gs L):gt+1<=W.heap.size:=by
 have:=ay h.AL;have:=h.Jp;omega
theorem lE.field(h:lE Wb gt db W X N width v ls sv gs L)(hb:zg W.heap.size W W1){i off:Nat}(hi:i<4)(ho:tU i=off){u:zf}{ys:List Int}(hF:aI gt 5 W' (upd v i u) (bG ls i ys))(hg:W1.grownBy W' (v i).ownBlock):
  W'.heap[db]?=zb (ze (iF width v) 25 (0,0))/\lE Wb gt db (W'.setCell ⟨db,off,za⟩ u) X N width (upd v i u) (bG ls i ys) sv gs L:=by
 subst ho;have h1:=h.call hb;have k1:KT 3 W1 W':=.Y1 hg λg e=>wG (h1.au.own i (by omega)) e
 have dk:=k1.keep _ _ _ h1.AL (by decide);have k2:KT 25 W' (W'.setCell ⟨db,tU i,za⟩ u):=KT.put dk;have hs:=h1.size;refine⟨dk,h.gz,?_,h.Jp,?_,hF.kt k2 (by decide),zjk (zjk h1.out k1 (by decide)) k2 (by decide),λk hk=>?_⟩
 ·exact(h1.bg.grown hg (by omega) (λb hb=>by have:=(dG (h1.au.own i (by omega)) hb).1;omega)).setCell h.Jp _
 ·have:=cJ W' db (tU i) _ _ u dk;rw[OQ _ _ _ hi]at this;exact this
 ·obtain⟨BX,m,h2,h3⟩:=h1.row k hk;exact⟨BX,m,(h2.kt k1 (by decide)).kt k2 (by decide),h3⟩
theorem lE.set{Za:zf}(h:lE Wb gt db W X N width v ls sv gs L)(hb:zg W.heap.size W W1){g:Nat}{S:St}{m:Nat->Bool}(fX:gt<=g)(hm:gZ W g N m)(hi:vB X N m S)(hs:F8 X S)
  (hO:W'.ownsRow (gt+1) 93 1 Za (L.length+1) (yA gs N L.length++[zc (zb ⟨g,0,za⟩) N N])) (hg:W1.grownBy W' sv.ownBlock):lE Wb gt db W' X N width v ls Za (λk=>if k=L.length then g else gs k) (L++[S]):=by
 have h1:=h.call hb;have k1:KT 93 W1 W':=.Y1 hg λg e=>KW h1.out e
 have hsz:=h1.size;refine⟨h.gz,h1.bg.grown hg (by omega) (λb hb=>by have:=(dU h1.out hb).1;omega),h.Jp,k1.keep _ _ _ h1.AL (by decide),h1.au.kt k1 (by decide),?_,λk hk=>?_⟩
 ·rw[aQ,IK,zpq,af rfl,znh (gs':=gs) (λk hk=>ab (by omega))];exact hO
 ·rw[aQ,IK]at hk
  by_cases e:k=L.length
  ·rw[af e];subst e;rw[show (L++[S]).getD L.length fT=S by simp[List.getD]];exact⟨fX,m,(hm.below hb).kt k1 (by decide),hi,hs⟩
  ·rw[ab e];obtain⟨a1,m',a2,a3⟩:=h1.row k (by omega);rw[show (L++[S]).getD k fT=L.getD k fT by simp[List.getD,List.getElem?_append_left (show k<L.length by omega)]];exact⟨a1,m',a2.kt k1 (by decide),a3⟩
theorem lE.at(h:lE Wb gt db W X N width v ls sv gs L){k:Nat}(hk:k<L.length):∃g cap m,sv=zc (zb ⟨g,0,za⟩) L.length cap/\W.cell? ⟨g,k,za⟩=zb (zc (zb ⟨gs k,0,za⟩) N N)/\gZ W (gs k) N m/\vB X N m (L.getD k fT)/\F8 X (L.getD k fT):=by
 obtain⟨-,m,h2,h3,h4⟩:=h.row k hk;rcases h.out.2 with ⟨_,h0⟩|⟨g,cap,aZ,e,hg,et,_⟩
 ·omega
 ·subst e;refine⟨g,cap,m,rfl,?_,h2,h3,h4⟩;have:=World.ownsRow.cellAt (show W.ownsRow (gt+1) 93 1 (zc (zb ⟨g,0,za⟩) L.length cap) L.length (yA gs N L.length) from h.out) k (by omega);rw[this];simp[yA,hk]
end
variable {l L:List St}{i j c k most K:Nat}{S:St}{bs:List dn}{fst:Bool}{nx:List Nat}
theorem znI(h:i<l.length):l.getD i fT=l[i]:=by rw[List.getD,bE h];rfl
open Classical in
theorem zuA(h1:1<=j)(h2:j<L.length)(he:L.getD j fT=S)(hn:∀i,1<=i->i<j->L.getD i fT≠S):pZ L S=j:=by
 unfold pZ;have hg:∀i,L.tail.getD i fT=L.getD (i+1) fT:=λi=>by cases L<;>simp[List.getD]
 have hl:L.tail.length=L.length-1:=List.length_tail;have:L.tail.findIdx (λT=>decide (T=S))=j-1:=by
  rw[List.findIdx_eq (by omega)];have gd:∀(i:Nat) (h:i<L.tail.length),L.tail[i]=L.getD (i+1) fT:=λi h=>by rw[<-hg,znI h]
  refine⟨?_,λi hi=>?_⟩
  ·rw[gd,show j-1+1=j by omega,he];simp
  ·rw[gd];simp only[decide_eq_false_iff_not];exact hn (i+1) (by omega) (by omega)
 omega
open Classical in
theorem zsY(h0:0<L.length)(hn:∀i,1<=i->i<L.length->L.getD i fT≠S):pZ L S=L.length:=by
 unfold pZ;have hg:∀i,L.tail.getD i fT=L.getD (i+1) fT:=λi=>by cases L<;>simp[List.getD]
 have hl:L.tail.length=L.length-1:=List.length_tail;have:L.tail.findIdx (λT=>decide (T=S))=L.tail.length:=by
  rw[List.findIdx_eq_length];intro x hx;obtain⟨i,hi,rfl⟩:=Al.1 hx;have gd:L.tail[i]=L.getD (i+1) fT:=by rw[<-hg,znI hi]
  rw[gd];simp only[decide_eq_false_iff_not];exact hn (i+1) (by omega) (by omega)
 omega
theorem zu4(h:pZ L (lh bs fst S c)=j)(hj:j<L.length):uY bs fst S (L,nx) c=(L,nx++[j]):=by
 unfold uY;show (if pZ L (lh bs fst S c)<L.length then L else L++[lh bs fst S c],nx++[pZ L (lh bs fst S c)])=_;rw[h,af hj]
theorem zu5(h:pZ L (lh bs fst S c)=L.length):uY bs fst S (L,nx) c=(L++[lh bs fst S c],nx++[L.length]):=by
 unfold uY;show (if pZ L (lh bs fst S c)<L.length then L else L++[lh bs fst S c],nx++[pZ L (lh bs fst S c)])=_;rw[h,ab (by omega)]
theorem zqr{t:List St}(h:k<l.length):(l++t).getD k fT=l.getD k fT:=by simp[List.getD,List.getElem?_append_left h]
theorem zn7(bs:List dn)(fst:Bool)(S:St)(st:List St×List Nat)(m:Nat){i:Nat}(h:i<st.1.length):(qT bs fst S st m).1.getD i fT=st.1.getD i fT:=by
 obtain⟨l,e⟩:=zn9 bs fst S st m;rw[e,zqr h]
theorem zuL(bs:List dn)(k d:Nat){i:Nat}(h:i<(dS bs k).1.length):(dS bs (k+d)).1.getD i fT=(dS bs k).1.getD i fT/\(dS bs k).1.length<=(dS bs (k+d)).1.length:=by
 induction d with
 |zero=>exact⟨rfl,aq _⟩
 |succ d ih=>
  have e:dS bs (k+(d+1))=dS bs (k+d+1):=rfl;refine⟨?_,cY ih.2 (by rw[e];exact znf bs (k+d))⟩;rw[e,TQ,zn7 _ _ _ _ _ (by omega)];exact ih.1
noncomputable def Oh (bs:List dn) (k:Nat):St:=(dS bs k).1.getD k fT
theorem zrz(hi:i<=k)(h:i<(dS bs i).1.length):(dS bs k).1.getD i fT=Oh bs i:=by
 have:=(zuL bs i (k-i) h).1;rw[show i+(k-i)=k by omega]at this;exact this
noncomputable def rG (bs:List dn) (we:Bool) (k:Nat):List Int:=(List.range k).map λi=>yV bs (i==0) (Oh bs i) we
theorem zl7(bs:List dn)(we:Bool)(k:Nat):rG bs we (k+1)=rG bs we k++[yV bs (k==0) (Oh bs k) we]:=by simp[rG,List.range_succ]
theorem Lg(bs:List dn)(we:Bool)(k:Nat):(rG bs we k).length=k:=by simp[rG]
theorem zui(bs:List dn):0<(iA bs).length:=by
 have mono:∀n,0<(aY (mg bs).length (mY bs) (n+1)).length:=λn=>by
  induction n with
  |zero=>rw[yg];simp[aY,fN]
  |succ n ih=>
   rw[yg];split
   ·exact ih
   ·rw[aQ];omega
 exact mono 255
theorem zmQ(bs:List dn):(iA bs).length<=256:=KV _ _ 256
theorem zvp(bs:List dn){m:Nat}(h:m<(iA bs).length):(iA bs).getD m 0<256:=by
 refine Il _ _ 256 _ (?_:_∈iA bs);rw[show (iA bs).getD m 0=(iA bs)[m] by simp[List.getD,h]];exact gA _
theorem zvm(bs:List dn){c:Nat}(h:c<256):xy bs c<(iA bs).length:=by
 have h1:fN (mg bs).length (mY bs) c<(aY (mg bs).length (mY bs) (c+1)).length:=by
  rw[yg];split
  ·assumption
  ·rw[aQ];have:fN (mg bs).length (mY bs) c<=(aY (mg bs).length (mY bs) c).length:=LG;simp;omega
 have mono:∀d,(aY (mg bs).length (mY bs) (c+1)).length<=(aY (mg bs).length (mY bs) (c+1+d)).length:=λd=>by
  induction d with
  |zero=>exact aq _
  |succ d ih=>
   refine cY ih ?_;rw[show c+1+(d+1)=(c+1+d)+1 from rfl,yg];split
   ·exact aq _
   ·rw[aQ];omega
 have:=mono (255-c);rw[show c+1+(255-c)=256 by omega]at this;exact dR h1 this
theorem T8{α:Type}{lo hi:Int}{l:List α}{f:α->Int}(h:∀x∈l,lo<=f x/\f x<=hi):cd lo hi (l.map f)=true:=by
 unfold cd;rw[jR];intro y hy;obtain⟨x,hx,rfl⟩:=Am.1 hy;exact kK.2 (h x hx)
theorem zp3(hE:yG bs most K)(hm:most<=4000)(hr:∀(k:Nat) (b:dn),bs[k]?=zb b->b.rule<=99):eI (ie bs K):=by
 have hK:0<K:=by rw[<-hE.len];exact zng bs K
 have hK2:K<=4000:=by
  have:=(hE.go (K-1) (by omega)).2;rw[show K-1+1=K by omega,hE.len]at this;omega
 have hi:=O5 bs K;have hp:=zui bs;have hl:=zmQ bs;refine⟨by simp[ie],?_,?_,?_,?_,by simp[ie],?_,?_,?_,?_,?_⟩
 ·show (1:Int)<=((iA bs).length:Nat);omega
 ·show (((iA bs).length:Nat):Int)<=256;omega
 ·show (1:Int)<=(((List.range K).map _).length:Nat);rw[lX,IJ];omega
 ·show ((((List.range K).map _).length:Nat):Int)<=4000;rw[lX,IJ];omega
 ·show ((((dS bs K).2.map _).length:Nat):Int)=(((List.range K).map _).length:Nat)*((iA bs).length:Nat);rw[lX,lX,IJ,hi.nl,Int.natCast_mul]
 ·refine T8 λc hc=>?_
  have:=zvm bs (qm.1 hc);show (0:Int)<=(xy bs c:Nat)/\((xy bs c:Nat):Int)<=((iA bs).length:Nat)-1;omega
 ·refine T8 λx hx=>?_
  have:=hi.lt x hx;rw[hE.len]at this;show (0:Int)<=(x:Nat)/\((x:Nat):Int)<=(((List.range K).map _).length:Nat)-1;rw[lX,IJ];omega
 ·exact T8 λk _=>ztv bs _ _ _ hr
 ·exact T8 λk _=>ztv bs _ _ _ hr
theorem zst(hE:yG bs most K):(ie bs K).tag=rG bs false K/\(ie bs K).fin=rG bs true K:=by
 constructor
 ·show (List.range K).map _=(List.range K).map _;refine Ak λk hk=>?_
  have hk:=qm.1 hk;rw[zrz (Nat.le_of_lt hk) (hE.go k hk).1]
 ·show (List.range K).map _=(List.range K).map _;refine Ak λk hk=>?_
  have hk:=qm.1 hk;rw[zrz (Nat.le_of_lt hk) (hE.go k hk).1]
end Go.Proofs.YtfajjdgkiilhfaaGreatDoor
