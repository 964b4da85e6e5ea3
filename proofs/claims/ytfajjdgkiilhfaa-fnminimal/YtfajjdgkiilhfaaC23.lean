import Derived.Test.YtfajjdgkiilhfaaC22
import Derived.Deep.RegionWith
import Derived.Deep.CutRange
namespace Go.Proofs.Ytfajjdgkiilhfaa
open Proofs.Try
open Option renaming none->za,some->zh
open Value renaming slice->zn,int->zp,agg->zF
open Obj renaming cells->zw
open Go renaming Value->zx,World->zB,TypeId->zD,Calls->zH
open RowKit renaming Below->zy
set_option maxHeartbeats 4000000
set_option maxRecDepth 100000
open Go.RowKit
attribute [local go_sem ↓] wp_at_zero wp_at_succ
section
variable {w W W':zB}{p n k:Nat}{nv bv:zx}{Ns Ms:List bO}{X:Xs}{bs:List dm}{T:GT}{M:GA}
theorem Try.zBb:(prog.info? 113).map (λi=>(i.zero,i.size,i.bytes))=zh (zh (zF #[zp .i64 0,.bool false,.bool false,zp .i64 0]),4,24):=by kernel_rfl
def C0(X:Xs):List zx:=X.flatMap λx=>b4 x.1
theorem zqn(X:Xs)(x:nw×GT):C0 (X++[x])=C0 X++b4 x.1:=by simp[C0]
structure vT(w:zB)(p:Nat)(W:zB)(nv bv:zx)(Ns:List bO)(X:Xs)(bs:List dm)(n:Nat):Prop where
 wt:j9 p W nv bv Ns
 bo:W.ownsRow (p+1) 113 4 bv X.length (C0 X)
 ma:EI w Ns X
 eq:aK X=bs
 len:Ns.length=n
 xl:X.length<=n
 dv:W.heap[w.heap.size]?=zh (zw #[zn za 0 0,zn za 0 0] 80 (0,0))
 bl:zy w.heap.size w W
theorem vT.below(h:vT w p W nv bv Ns X bs n)(hb:zy W.heap.size W W'):vT w p W' nv bv Ns X bs n:=
 ⟨h.wt.below hb,uo h.bo λb iQ=>hb.block b (dL h.bo iQ).2,h.ma,h.eq,h.len,h.xl,(hb.block _ (az h.dv)).trans h.dv,bi h.bl h.bl.size hb⟩
theorem vT.zwb(h:vT w p W nv bv Ns X bs n):∃ao cap,bv=.slice ao X.length cap:=by
 rcases h.bo.2 with ⟨h,h0⟩|⟨g,cap,_,h,_⟩
 ·exact⟨za,0,by rw[h,h0]⟩
 ·exact⟨_,_,h⟩
structure EH(w:zB)(p:Nat)(W:zB)(nv bv:zx)(Ns Ms:List bO)(X:Xs)(T:GT)(bs:List dm)(n:Nat)(M:GA)(k:Nat):Prop where
 wt:j9 p W nv bv (Ns++Ms)
 tt:j8 w Ns Ms M k T
 bo:W.ownsRow (p+1) 113 4 bv X.length (C0 X)
 ma:EI w Ns X
 eq:aK X=bs
 len:Ns.length=n
 xl:X.length<=n
 dv:W.heap[w.heap.size]?=zh (zw #[zn za 0 0,zn za 0 0] 80 (0,0))
 bl:zy w.heap.size w W
theorem vT.write{mW:zx}(h:vT w p W nv bv Ns X bs n)(hp:p=w.heap.size+1)(kp:fq p W W')(wt:j9 p W' mW bv (Ns++Ms))(tt:j8 w Ns Ms M k T):EH w p W' mW bv Ns Ms X T bs n M k:=by
 refine⟨wt,tt,?_,h.ma,h.eq,h.len,h.xl,(kp.low _ (by omega)).trans h.dv,kp.base h.bl (by omega)⟩;refine uo h.bo λb hb=>?_
 obtain⟨a9,e⟩:=L5 h.bo hb;exact(kp.F4 b _ _ e (by decide) (by decide)).trans e.symm
theorem EH.below(h:EH w p W nv bv Ns Ms X T bs n M k)(hb:zy W.heap.size W W'):EH w p W' nv bv Ns Ms X T bs n M k:=
 ⟨h.wt.below hb,h.tt,uo h.bo λb iQ=>hb.block b (dL h.bo iQ).2,h.ma,h.eq,h.len,h.xl,(hb.block _ (az h.dv)).trans h.dv,bi h.bl h.bl.size hb⟩
theorem EH.done{W1 W9:zB}{g cap i:Nat}{bol eol:Bool}(h:EH w p W nv bv Ns Ms X T bs n M k)(hp:p=w.heap.size+1)(hb:zy W.heap.size W W1)
  (AU:W9.ownsRow (p+1) 113 4 (zn (zh ⟨g,0,za⟩) (X.length+1) cap) (X.length+1) (C0 X++[zp .i64 (i:Nat),.bool bol,.bool eol,zp .i64 ((Ns.length+Ms.length-1:Nat):Int)])) (kE:W1.grownBy W9 bv.ownBlock):
  W9.heap[p]?=zh (zw #[nv,bv] 80 (0,0))/\vT w p (W9.setCell ⟨p,1,za⟩ (zn (zh ⟨g,0,za⟩) (X.length+1) cap)) nv (zn (zh ⟨g,0,za⟩) (X.length+1) cap) (Ns++Ms) (X++[(⟨i,bol,eol,Ns.length+Ms.length-1⟩,T)]) (bs++[⟨i,bol,eol,M⟩]) (n+k)/\(∀(j:Nat) (cs:Array zx) (t:zD),W.heap[j]?=zh (zw cs t (0,0))->t≠80->t≠113->(W9.setCell ⟨p,1,za⟩ (zn (zh ⟨g,0,za⟩) (X.length+1) cap)).heap[j]?=zh (zw cs t (0,0))):=by
 have h1:=h.below hb;have hlt:=az h1.wt.box;have hne:bv.ownBlock≠zh p:=λe=>by have:=(dL h1.bo e).1;omega
 have bN:W9.heap[p]?=zh (zw #[nv,bv] 80 (0,0)):=(kE.block p hlt (λe=>hne e.symm)).trans h1.wt.box;have Tg:∀(j:Nat) (cs:Array zx) (t:zD),W1.heap[j]?=zh (zw cs t (0,0))->t≠113->W9.heap[j]?=zh (zw cs t (0,0)):=λj cs t e ht=>by
  refine(kE.block j (az e) (λe2=>?_)).trans e;obtain⟨a9,e3⟩:=L5 h1.bo e2.symm;rw[e]at e3;exact ht (PT e3)
 have Ze:=TS W9 p 1 (zn (zh ⟨g,0,za⟩) (X.length+1) cap);have low:∀j,j<p->(W9.setCell ⟨p,1,za⟩ (zn (zh ⟨g,0,za⟩) (X.length+1) cap)).heap[j]?=W1.heap[j]?:=λj hj=>by
  rw[cS _ _ _ _ (by simp;omega)];exact kE.block j (by omega) (λe=>by have:=(dL h1.bo e.symm).1;omega)
 refine⟨bN,⟨⟨?_,?_⟩,?_,h.ma.snoc h.tt _ rfl,?_,?_,?_,?_,?_⟩,?_⟩
 ·exact dx W9 p 1 _ _ (zn (zh ⟨g,0,za⟩) (X.length+1) cap) bN
 ·refine uo h1.wt.own λb iQ=>?_
  obtain⟨a9,e⟩:=L5 h1.wt.own iQ;have eK:=(dL h1.wt.own iQ).1;rw[cS _ _ _ _ (by simp;omega)];exact(Tg b _ _ e (by decide)).trans e.symm
 ·rw[zqn,a6,JO];refine uo AU λb iQ=>?_
  have:=(dL AU iQ).1;exact cS _ _ _ _ (by simp;omega)
 ·rw[<-h.eq];unfold aK;rw[rR];simp[h.tt.ga]
 ·rw[a6,h.len,h.tt.len]
 ·rw[a6,JO];have:=h.xl;have:=h.tt.pos;omega
 ·exact(low _ (by omega)).trans h1.dv
 ·exact⟨kE.os.trans h1.bl.os,kE.tape.trans h1.bl.tape,kE.output.trans h1.bl.output,cM h1.bl.size (cM kE.size Ze.size),λj hj=>(low j (by omega)).trans (h1.bl.block j hj)⟩
 ·intro j cs t e mP lR;have e9:=Tg j cs t ((hb.block j (az e)).trans e) lR;refine(cS _ _ _ _ (λe2=>?_)).trans e9;simp at e2;subst e2;rw[bN]at e9;exact mP (PT e9).symm
theorem zts{α:Type}(f:α->List zx)(hf:∀x,(f x).length=4):∀(l:List α) (i j:Nat) (x:α),l[i]?=zh x->j<4->(l.flatMap f)[i*4+j]?=(f x)[j]?
 |[],i,j,x,h,_=>by simp at h
 |a::l,0,j,x,h,hj=>by
  simp at h;subst h;rw[List.flatMap_cons,rU (by rw[hf];omega)];simp
 |a::l,i+1,j,x,h,hj=>by
  have:=zts f hf l i j x (by simpa using h) hj;rw[List.flatMap_cons,vH (by rw[hf];omega),hf,show (i+1)*4+j-4=i*4+j by omega];exact this
theorem zrU{α:Type}{B:Nat}{e:zD}{v:zx}{l:List α}(f:α->List zx)(hf:∀x,(f x).length=4)(h:w.ownsRow B e 4 v l.length (l.flatMap f)):∃ao cap,v=.slice ao l.length cap/\(0<l.length->∃g,ao=zh ⟨g,0,za⟩/\B<=g/\g<w.heap.size/\∀i x,l[i]?=zh x->∀j u,(f x)[j]?=zh u->w.cell? ⟨g,i*4+j,za⟩=zh u):=by
 have h0:=h;rcases h.2 with ⟨rfl,hz⟩|⟨g,cap,a9,rfl,hg,ff,_⟩
 ·exact⟨za,0,by rw[hz],λhp=>by omega⟩
 ·refine⟨zh ⟨g,0,za⟩,cap,rfl,λ_=>⟨g,rfl,hg,az ff,λi x hx j u hu=>?_⟩⟩;have hi:=(n5.1 hx).1;have hj:j<4:=by have:=(n5.1 hu).1;rw[hf]at this;exact this
  have:=World.ownsRow.cellAt (show w.ownsRow B e 4 (zn (zh ⟨g,0,za⟩) l.length cap) l.length (l.flatMap f) from h0) (i*4+j) (by omega);rw[this,zts f hf l i j x hx hj,hu]
theorem vT.spx(h:vT w p W nv bv Ns X bs n)(hp:p=w.heap.size+1)(hn:n<=8589934592):
  xY w ((W.setCell ⟨w.heap.size,0,za⟩ nv).setCell ⟨w.heap.size,1,za⟩ bv) nv bv Ns X/\zy w.heap.size w ((W.setCell ⟨w.heap.size,0,za⟩ nv).setCell ⟨w.heap.size,1,za⟩ bv):=by
 have hb:zy w.heap.size w ((W.setCell ⟨w.heap.size,0,za⟩ nv).setCell ⟨w.heap.size,1,za⟩ bv):=(h.bl.setCell (by simp) _).setCell (by simp) _;have hk:∀g o,p<g->((W.setCell ⟨w.heap.size,0,za⟩ nv).setCell ⟨w.heap.size,1,za⟩ bv).cell? ⟨g,o,za⟩=W.cell? ⟨g,o,za⟩:=λg o hg=>
  World.cell?_of_block (w:=W) (by rw[cS _ _ _ _ (by simp;omega),cS _ _ _ _ (by simp;omega)])
 refine⟨⟨⟨by rw[h.len];exact hn,?_⟩,⟨by have:=h.xl;omega,?_⟩,h.ma.tr,h.ma.cR,hb,h.ma.al⟩,hb⟩
 ·obtain⟨ao,cap,e,h1⟩:=zrU Pg (λ_=>rfl) h.wt.own;refine⟨ao,cap,e,λh0=>?_⟩;obtain⟨g,e2,hg,hl,hc⟩:=h1 h0;refine⟨g,e2,by simpa [World.setCell]using hl,λi hi j u hu=>?_⟩;rw[hk g _ (by omega)];have hx:=bE hi;exact hc i _ hx j u (by rw[show Ns.getD i .zero=Ns[i] by simp[List.getD,hi]]at hu;exact hu)
 ·obtain⟨ao,cap,e,h1⟩:=zrU (λx:nw×GT=>b4 x.1) (λ_=>rfl) h.bo;refine⟨ao,cap,e,λh0=>?_⟩;obtain⟨g,e2,hg,hl,hc⟩:=h1 h0;refine⟨g,e2,by simpa [World.setCell]using hl,λi x hx j u hu=>?_⟩;rw[hk g _ (by omega)];exact hc i x hx j u hu
end
theorem zeO{w:zB}{g:Nat}{a b c:zx}{t:zD}(h:w.heap[g]?=zh (zw #[a,b,c] t (0,0))):w.cell? ⟨g,0,za⟩=zh a/\w.cell? ⟨g,1,za⟩=zh b/\w.cell? ⟨g,2,za⟩=zh c:=by
 have:∀o,w.cell? ⟨g,o,za⟩=#[a,b,c][o]?:=λ_=>dt _ _ _ _ _ _ h
 exact⟨this 0,this 1,this 2⟩
structure Kp(rs:List dC):Prop where
 sm:JG rs
 ok:∀k,k<rs.length->qM (rs.getD k .zero).branches
 ct:oZ rs<=8589934592
theorem zmx{ns:List aI}(h:kP ns=true):0<ns.length:=by
 rcases JS ns.length with h0|h0
 ·have:ns=[]:=qj h0;subst this;simp[kP,gD]at h
 ·exact h0
theorem znI(v:zx)(rs:List dC)(w:zB)(hs:qJ 0 w v rs)(hw:Kp rs):
  zH prog 39 #[v] w λe W=>∃nv bv Ns X,e=.returned (zF #[nv,bv])/\xY w W nv bv Ns X/\aK X=fw 0 rs/\zy w.heap.size w W:=by
 obtain⟨ao,cap,rfl,hm,hc⟩:=hs;obtain⟨i0,hi,eQ,eR,dR⟩:=info_parts Try.zBb;have hl:=hw.sm.1;obtain⟨p,hp⟩:∃p,p=w.heap.size+1:=⟨_,rfl⟩;obtain⟨W0,ay⟩:∃W0,(w.alloc (zw #[zn za 0 0,zn za 0 0] 80)).alloc (zw #[zn za 0 0,zn za 0 0] 80)=W0:=⟨_,rfl⟩;have l7:vT w p W0 (zn za 0 0) (zn za 0 0) [] [] [] 0:=by
  subst ay;subst hp;refine⟨⟨UD _ _ _,⟨rfl,.inl ⟨rfl,rfl⟩⟩⟩,⟨rfl,.inl ⟨rfl,rfl⟩⟩,EI.nil w,rfl,rfl,ax _,JA (aU _ _),(aC).alloc (by simp) _⟩
 have HC:=ag hc;have HW:=ag hw;have HP:=ag hp;have bQ:=ag ay;clear hc hw ay hp
 go_enter func39,ntmps39
 go_upto_region 2 with fail
 rw[bQ.out];clear bQ;rw[<-HP.out]
 go_wp2_with fail
 go_loopw [13] (λi wr=>∃(k:Nat) (nv bv:zx) (Ns:List bO) (X:Xs),k<=rs.length/\i=zp .i64 k/\vT w p wr nv bv Ns X (fw 0 (rs.take k)) (oZ (rs.take k))) (λi _=>rs.length-(intOf i).toNat)
 case atStart=>exact⟨0,_,_,_,_,bH _,rfl,by simpa [fw,oZ]using l7⟩
 case round=>
  obtain⟨k,nv,bv,Ns,X,hk,rfl,hI⟩:=hrel;clear l7
  by_cases hlt:k<rs.length
  ·obtain⟨b,o,rbv,rd,rfl,Ki,cQ,c0,c1,qx⟩:=HC.out.elem hI.bl hlt;obtain⟨bo,bc,rfl,re,tS⟩:=qx;have FK:=HW.out.sm.2 k hlt;have Ly:=HW.out.ok k hlt;have Yo:=zjP rs hlt;have zw1:=zom rs (k+1);have Yl:=zqr rs hlt;rw[Ki.out]at FK Ly Yo Yl;have fk:(0:Int)<=(k:Int):=by omega
   have cG:(k:Int)<(rs.length:Int):=by omega
   have iU:b<wr.heap.size:=fR cQ hI.bl.size;obtain⟨W1,bk⟩:∃W1,wr.alloc (zw #[.slice bo rd.branches.length bc,zp .i64 rd.jT] 89)=W1:=⟨_,rfl⟩;have b1:zy wr.heap.size wr W1:=by rw[<-bk];exact aC
   have x1:W1.heap[wr.heap.size]?=zh (zw #[.slice bo rd.branches.length bc,zp .i64 rd.jT] 89 (0,0)):=by rw[<-bk];exact aU _ _
   obtain⟨q0,q1⟩:=dM x1;have KL:=hI.below b1;have lY:=ag KL;have HW1:=ag bk;have JX:=ag tS;have M8:=ag FK;have HOK:=ag Ly;have UU:=ag Yo;have zG:=ag zw1;have HBK:=ag Yl;clear KL bk tS FK Ly Yo zw1 Yl hI b1 x1
   go_upto_region 5 with fail
   rw[HW1.out];clear HW1 c0 c1
   go_wp2_with fail
   go_loopw [21] (λi wr2=>∃(j:Nat) (nv bv:zx) (Ns:List bO) (X:Xs),j<=rd.branches.length/\i=zp .i64 j/\vT w p wr2 nv bv Ns X (fw 0 (rs.take k)++(xF k rd.branches).take j) (oZ (rs.take k)+pJ (rd.branches.take j))) (λi _=>rd.branches.length-(intOf i).toNat)
   case atStart=>exact⟨0,_,_,_,_,bH _,rfl,by simpa [pJ]using lY.out⟩
   case round=>
    obtain⟨j,nv,bv,Ns,X,hj,rfl,hI⟩:=hrel
    by_cases tX:j<rd.branches.length
    ·obtain⟨Ks,Kt,rfl⟩:=hI.zwb;obtain⟨b2,o2,nnv,bd,zz5,VB,Og,d0,d1,d2,IV⟩:=JX.out.elem (Below.refl _ _) tX;cases zz5;obtain⟨oG,oH,zAL,pU,ry⟩:=IV;subst zAL;have zwy:nX 0 w (.slice oG bd.nodes.length oH) bd.nodes:=⟨oG,oH,rfl,pU,ry⟩;have d0:=(hI.bl.cell (p:=⟨b2,o2+j*3,za⟩) Og).trans d0;have d1:=(hI.bl.cell (p:=⟨b2,o2+j*3+1,za⟩) Og).trans d1;have d2:=(hI.bl.cell (p:=⟨b2,o2+j*3+2,za⟩) Og).trans d2;have Fp:b2<wr.heap.size:=fR Og hI.bl.size;have il:bd.nodes.length<=1048576:=by have:=(M8.out.2 j tX).1;rw[VB.out]at this;exact this
     obtain⟨wE,lP⟩:=HOK.out j tX;rw[VB.out]at wE lP;have pX:=zmx wE;have kH:=zjO rd.branches tX;have zAb:=zok rd.branches (j+1);have ri:=zm8 k rd.branches tX;rw[VB.out]at kH ri;have FR:X.length<=8589934592:=by have:=hI.xl;have:=UU.out;have:=zG.out;have:=HW.out.ct;omega
     have hct:Ns.length+eI (xy bd)<=8589934592:=by have:=hI.len;have:=UU.out;have:=zG.out;have:=HW.out.ct;omega
     have Dp:(0:Int)<=(j:Int):=by omega
     have pR:(j:Int)<(rd.branches.length:Int):=by omega
     have BZ:IntKind.i64.wrap ((bd.nodes.length:Int)-1)=((bd.nodes.length-1:Nat):Int):=by rw[IntKind.wrap_i64];omega
     obtain⟨W2,dY⟩:∃W2,wr.alloc (zw #[.bool bd.bol,.bool bd.eol,.slice oG bd.nodes.length oH] 107)=W2:=⟨_,rfl⟩;have Ww:zy wr.heap.size wr W2:=by rw[<-dY];exact aC
     have x2:W2.heap[wr.heap.size]?=zh (zw #[.bool bd.bol,.bool bd.eol,.slice oG bd.nodes.length oH] 107 (0,0)):=by rw[<-dY];exact aU _ _
     have iz:=(hI.below Ww).below (Below.refl _ _).drew;have Tu:W2.drew.heap[wr.heap.size]?=zh (zw #[.bool bd.bol,.bool bd.eol,.slice oG bd.nodes.length oH] 107 (0,0)):=x2;have crd:=zpr w bd.bol bd.eol oG oH bd.nodes W2.drew zwy iz.bl il wE;have cwr:∀(W3:zB) (gl cl gr cr:Nat),zy W2.drew.heap.size W2.drew W3->Bf w W3 bd.nodes (.slice oG bd.nodes.length oH) gl gr->zH prog 53 #[.pointer (zh ⟨p,0,za⟩),zF #[.slice oG bd.nodes.length oH,zn (zh ⟨gl,0,za⟩) bd.nodes.length cl,zn (zh ⟨gr,0,za⟩) bd.nodes.length cr,.string ⟨#[]⟩],zp .i64 ((bd.nodes.length-1:Nat):Int)] W3 λe W4=>∃(i:Nat) (mW:zx) (Ms:List bO) (T:GT),e=.returned (zp .i64 i)/\Hid (Ns.length+Ms.length-1=i)/\EH w p W4 mW (.slice Ks X.length Kt) Ns Ms X T (fw 0 (rs.take k)++(xF k rd.branches).take j) (oZ (rs.take k)+pJ (rd.branches.take j)) (iL (xy bd)) (eI (xy bd))/\W4.heap[wr.heap.size]?=zh (zw #[.bool bd.bol,.bool bd.eol,.slice oG bd.nodes.length oH] 107 (0,0)):=by
      intro W3 gl cl gr cr h3 dB;have i3:=iz.below h3;refine(zqd w bd.nodes (Ui wE) lP (bd.nodes.length-1) (by omega) p W3 oG oH gl cl gr cr nv (.slice Ks X.length Kt) Ns dB i3.wt i3.bl (by have:=HP.out;omega) hct).mono ?_;rintro e W4 ⟨mW,Ms,T,rfl,Tt,tt4,Pc⟩;exact⟨_,mW,Ms,T,rfl,rfl,i3.write HP.out Pc Tt tt4,Pc.F4 _ _ _ ((h3.block _ (az Tu)).trans Tu) (by decide) (by decide)⟩
     obtain⟨q0,q1,q2⟩:=zeO x2;have od:=ag Tu;have nB:=ag dY;have HCB:=ag kH;have HBT:=ag ri;clear ry zwy hI Ww x2 Tu iz dY kH zAb ri hct wE lP pU
     go_upto_region 8 with fail
     rw[nB.out];clear nB d0 d1 d2
     go_cut [8] from 25 to 49 (λtv wx=>∃(i1:Nat) (LM:zx) (Ms:List bO) (T:GT),tv=zp .i64 i1/\Hid (Ns.length+Ms.length-1=i1)/\EH w p wx LM (.slice Ks X.length Kt) Ns Ms X T (fw 0 (rs.take k)++(xF k rd.branches).take j) (oZ (rs.take k)+pJ (rd.branches.take j)) (iL (xy bd)) (eI (xy bd))/\wx.heap[wr.heap.size]?=zh (zw #[.bool bd.bol,.bool bd.eol,.slice oG bd.nodes.length oH] 107 (0,0)))
     case first=>
      go_region_with (first
       |(go_at_call 54;refine crd.mono ?_;rintro e W3 ⟨b3,gl,cl,gr,cr,rfl,dB⟩;obtain⟨q0,q1,q2⟩:=zeO ((b3.block _ (az od.out)).trans od.out))
       |(go_at_call 53;refine(cwr _ _ _ _ _ b3 dB).mono ?_;rintro e W4 ⟨i1,LM,Ms,T,rfl,VN,J4,x4⟩))
      all_goals
       go_wp2_with fail
       go_meet
       exact⟨i1,LM,Ms,T,rfl,VN,J4,x4⟩
     case rest=>
      obtain⟨i1,LM,Ms,T,rfl,VN,J4,x4⟩:=hcut;obtain⟨q0,q1,q2⟩:=zeO x4;obtain⟨p0,p1⟩:=dM J4.wt.box;have dz:=az J4.wt.box;have sG:=az x4;have bV:∀W5,zy wc.heap.size wc W5->W5.ownsRow (p+1) 113 4 (.slice Ks X.length Kt) X.length (C0 X):=λW5 h5=>(J4.below h5).bo
      have hdone:∀(W5 W9:zB) (g oX:Nat),zy wc.heap.size wc W5->W9.ownsRow (p+1) 113 4 (zn (zh ⟨g,0,za⟩) (X.length+1) oX) (X.length+1) (C0 X++[zp .i64 (k:Nat),.bool bd.bol,.bool bd.eol,zp .i64 (i1:Int)])->W5.grownBy W9 (Value.slice Ks X.length Kt).ownBlock->_:=λW5 W9 g oX h5 h6 h7=>J4.done (i:=k) (bol:=bd.bol) (eol:=bd.eol) HP.out h5 (by rw[VN.out];exact h6) h7
      have HD:=ag hdone;have xQ:=ag x4;clear hdone J4 x4 crd cwr
      go_upto_region 9 with fail
      go_region_law ((refine step_append_lies _ (by rfl) (.tmp 37) (.tmp 45) 78 (by rfl) (p+1) 113 i0 _ 4 24 underlying78 hi eQ eR dR rfl (by omega) (.slice Ks X.length Kt) X.length (C0 X) (by rfl) (bV _ (by first|exact((Below.refl _ _).drew.alloc (ax _) _)|exact(aC).drew)) ⟨wc.heap.size,0,za⟩ 1 1 [zp .i64 (k:Nat),.bool bd.bol,.bool bd.eol,zp .i64 (i1:Int)] (by rfl) rfl (zko (by first|exact aU _ _|exact P7 (aU _ _))) (by intro u hu;simp at hu;rcases hu with rfl|rfl|rfl|rfl<;>rfl) (by omega) (by unfold maxLen;omega) (by omega) (by simp;omega) (wc.heap.size+1) (by simp) ?_;intro g oX w9 AU kE at9 lt9;obtain⟨Kw,I9,k9⟩:=HD.out _ w9 g oX (by first|exact((Below.refl _ _).drew.alloc (ax _) _)|exact(aC).drew) AU kE;obtain⟨y0,y1⟩:=dM Kw;have f9:=aR _ _ 1 _ _ Kw))
      all_goals
       rw[jA (fw 0 (rs.take k)),Cv (oZ (rs.take k)),<-HBT.out,<-HCB.out]at I9;have MT:=ag I9;clear I9 k9 AU kE;go_wp2
       go_roundw
       case rel=>exact⟨j+1,_,_,_,_,by omega,by go_num,MT.out⟩
       case measure=>simp[intOf];omega
    ·have me:j=rd.branches.length:=by omega
     have HI:=ag hI;clear hI;have hne:¬(j:Int)<(rd.branches.length:Int):=by omega
     go_wp2
     go_roundw
     case rel=>
      refine⟨k+1,nv,bv,Ns,X,by omega,by go_num,?_⟩;have:=HI.out;rw[me,show (xF k rd.branches).take rd.branches.length=xF k rd.branches from tj (by simp[xF]),show rd.branches.take rd.branches.length=rd.branches from th]at this;rw[HBK.out,UU.out];exact this
     case measure=>simp[intOf];omega
  ·have cI:k=rs.length:=by omega
   obtain⟨no,nc,rfl⟩:=hI.wt.form;obtain⟨bo,bc,rfl⟩:=hI.zwb;rw[cI,th]at hI;have hsp:=hI.spx HP.out HW.out.ct;obtain⟨p0,p1⟩:=dM hI.wt.box;obtain⟨r0,r1⟩:=dM hI.dv;have g0:=aR _ _ 0 _ _ hI.dv;have g1:=aR _ _ 1 _ _ hI.dv;have r2:=dx wr w.heap.size 0 _ _ (.slice no Ns.length nc) hI.dv;have r3:=dx _ w.heap.size 1 _ _ (.slice bo X.length bc) r2;obtain⟨t0,t1⟩:=dM r3;have qU:=ag hsp;have GQ:=ag hI.eq;have hne:¬(k:Int)<(rs.length:Int):=by omega
   clear hI hsp;go_wp2;refine bw (v:=zF #[.slice no Ns.length nc,.slice bo X.length bc]) (by simp[results,results39,go_sem,t0,t1]) rfl ?_
   first|exact⟨_,_,rfl,Ns,X,qU.out.1,GQ.out,qU.out.2⟩|exact⟨_,_,rfl,⟨Ns,X,qU.out.1,GQ.out⟩,qU.out.2⟩|exact⟨_,_,rfl,Ns,⟨X,qU.out.1,GQ.out⟩,qU.out.2⟩|exact⟨_,_,⟨rfl,Ns,X,qU.out.1,GQ.out⟩,qU.out.2⟩|(trace_state;fail)
section
variable {c k:Nat}{bs:List dm}{w0 w W W':zB}{nv bv:zx}{Ns:List bO}{X:Xs}{v:Nat -> zx}{l:Nat -> List Int}
theorem zqL(l:List Nat){k:Nat}(h:k<l.length):∃x,l[k]?=zh x/\l.getD k 0=x:=⟨l[k],bE h,by simp[List.getD,h]⟩
theorem zqv{K:Nat}{R:Nat->Nat->Nat}(h:∀j,j<(aM K R c).length->je K R ((aM K R c).getD j 0) c=false):da K R c=(aM K R c).length:=by
 rcases jP (da K R c) (aM K R c).length with hl|hl
 ·have:=(Qn (K:=K) (R:=R) (c:=c) hl).2 rfl;rw[h _ hl]at this;cases this
 ·have:da K R c<=(aM K R c).length:=JR;omega
theorem ztq(hk:k<(l9 bs c).length)(h:Er bs ((l9 bs c).getD k 0) c):yk bs c=k/\l9 bs (c+1)=l9 bs c:=by
 have h1:yk bs c=k:=(Qn hk).1 ((zmd bs _ c).2 h);refine⟨h1,?_⟩;unfold l9;rw[sR,ae (show da (ml bs).length (mY bs) c<(aM (ml bs).length (mY bs) c).length from by rw[show da (ml bs).length (mY bs) c=k from h1];exact hk)]
theorem ztp(h:∀k,k<(l9 bs c).length->¬Er bs ((l9 bs c).getD k 0) c):yk bs c=(l9 bs c).length/\l9 bs (c+1)=l9 bs c++[c]:=by
 have h1:yk bs c=(l9 bs c).length:=zqv λj hj=>by
  have:=h j hj;rw[<-zmd]at this;exact Bool.eq_false_iff.2 this
 refine⟨h1,?_⟩;unfold l9;rw[sR,ab (show ¬da (ml bs).length (mY bs) c<(aM (ml bs).length (mY bs) c).length from by rw[show da (ml bs).length (mY bs) c=_ from h1];exact Nat.lt_irrefl _)]
def vU(w0 w wr W:zB)(nv bv:zx)(Ns:List bO)(X:Xs)(v:Nat->zx)(l:Nat->List Int)(k a b s:zx):Prop:=W.heap[wr.heap.size]?=zh (zw #[k,a,b,s] 116 (0,0))/\pH w0 w W nv bv Ns X v l/\W.cell? ⟨wr.heap.size,0,za⟩=zh k/\W.cell? ⟨wr.heap.size,3,za⟩=zh s
theorem vU.call{wr:zB}{k a b s:zx}(h:vU w0 w wr W nv bv Ns X v l k a b s)(hb:zy W.heap.size W W'):vU w0 w wr W' nv bv Ns X v l k a b s:=by
 obtain⟨h1,h2,-,-⟩:=h;have h3:=(hb.block _ (az h1)).trans h1;obtain⟨q0,-,-,q3⟩:=eu h3;exact⟨h3,h2.call hb,q0,q3⟩
theorem pH.app(h:pH w0 w W nv bv Ns X v l)(hS:xY w0 w nv bv Ns X){i:Nat}(hi:i<2){u:zx}{ys:List Int}(hF:aS w.heap.size 2 W' (upd v i u) (bq l i ys))(hg:W.grownBy W' (v i).ownBlock):pH w0 w W' nv bv Ns X (upd v i u) (bq l i ys):=by
 have hb:zy w.heap.size w W':=h.bl.grown hg h.bl.size (λk hk=>by have:=eN (h.aq.own i hi) hk;omega);exact⟨h.aq.others hi hg (by decide) h.box,hS.below hb,hF,hb⟩
theorem zsb(h1:yk bs c=k)(h2:l9 bs (c+1)=l9 bs c):bq (jE bs c) 0 (qX bs c++[(k:Int)])=jE bs (c+1):=by
 funext i
 by_cases hi:i=0
 ·subst hi;rw[ez];show _=qX bs (c+1);rw[zjM,h1]
 ·rw[a8 _ _ hi];unfold jE;rw[ab hi,ab hi,h2]
theorem zsa(h0:(l9 bs c).length=k)(h1:yk bs c=(l9 bs c).length)(h2:l9 bs (c+1)=l9 bs c++[c]):bq (bq (jE bs c) 1 (aO (l9 bs c)++[(c:Int)])) 0 (qX bs c++[(k:Int)])=jE bs (c+1):=by
 funext i
 by_cases hi:i=0
 ·subst hi;rw[ez];show _=qX bs (c+1);rw[zjM,h1,h0]
 ·rw[a8 _ _ hi]
  by_cases hj:i=1
  ·subst hj;rw[ez];unfold jE;rw[ab hi,ae rfl,h2];simp[aO]
  ·rw[a8 _ _ hj];unfold jE;rw[ab hi,ab hi,ab hj,ab hj]
theorem znH(w0 w:zB)(nv bv:zx)(Ns:List bO)(X:Xs)(hS:xY w0 w nv bv Ns X):
  zH prog 40 #[zF #[nv,bv]] w λe W=>∃v,e=.returned (.tuple #[v 0,v 1])/\aS w.heap.size 2 W v (jE (aK X) 256)/\zy w.heap.size w W:=by
 have jF:=hS.nx.len;obtain⟨no,pq,rfl,-⟩:=hS.nx.at_;obtain⟨W0,ay⟩:∃W0,((w.alloc (zw #[.slice no Ns.length pq,bv] 80)).alloc (zw #[] 3)).alloc (zw #[] 3)=W0:=⟨_,rfl⟩;have l7:pH w0 w W0 (.slice no Ns.length pq) bv Ns X (upd (upd (λ_=>zn za 0 0) 0 (zn (zh ⟨w.heap.size+1,0,za⟩) 0 0)) 1 (zn (zh ⟨w.heap.size+2,0,za⟩) 0 0)) (jE (aK X) 0):=by
  subst ay;have b0:zy w.heap.size w (w.alloc (zw #[.slice no Ns.length pq,bv] 80)):=aC;have x0:(w.alloc (zw #[.slice no Ns.length pq,bv] 80)).heap[w.heap.size]?=zh (zw #[.slice no Ns.length pq,bv] 80 (0,0)):=aU _ _;have f0:aS w.heap.size 0 (w.alloc (zw #[.slice no Ns.length pq,bv] 80)) (λ_=>zn za 0 0) (λ_=>[]):=aS.nil _ _ _;have f1:=f0.new (by simp);have f2:=f1.new (by simp);have b1:zy w.heap.size w (((w.alloc (zw #[.slice no Ns.length pq,bv] 80)).alloc (zw #[] 3)).alloc (zw #[] 3)):=(b0.alloc (by simp) _).alloc (by simp;omega) _;refine⟨JA (JA x0),hS.below b1,?_,b1⟩;refine f2.congr (λi hi=>?_) (λi hi=>?_)
  ·rcases i with _|_|i
   ·simp[upd]
   ·simp[upd]
   ·omega
  ·rcases i with _|_|i
   ·simp[bq,jE,qX]
   ·simp[bq,jE,l9,aM,aO]
   ·omega
 have bQ:=ag ay;have HS:=ag hS;clear ay hS
 go_enter func40,ntmps40
 go_upto_region 3 with fail
 rw[bQ.out];clear bQ
 go_wp2_with fail
 go_loopw [4,5,6] (λcv hv ci wr=>∃(c:Nat) (v:Nat->zx),c<=256/\ci=zp .i64 c/\cv=v 0/\hv=v 1/\pH w0 w wr (.slice no Ns.length pq) bv Ns X v (jE (aK X) c)) (λ_ _ i _=>256-(intOf i).toNat)
 case atStart=>exact⟨0,upd (upd (λ_=>zn za 0 0) 0 (zn (zh ⟨w.heap.size+1,0,za⟩) 0 0)) 1 (zn (zh ⟨w.heap.size+2,0,za⟩) 0 0),by omega,rfl,rfl,rfl,l7⟩
 case round=>
  obtain⟨c,v,hc,rfl,rfl,rfl,hI⟩:=hrel;clear l7
  by_cases hlt:c<256
  ·have zCI:(c:Int)<256:=by omega
   obtain⟨hl,Dm⟩:∃hl,l9 (aK X) c=hl:=⟨_,rfl⟩;have zCz:hl.length<=256:=by rw[<-Dm];have:=D9 (ml (aK X)).length (mY (aK X)) c;unfold l9;omega
   have h1:jE (aK X) c 1=aO hl:=by unfold jE;rw[ab (by omega),ae rfl,Dm]
   have h0:jE (aK X) c 0=qX (aK X) c:=rfl;have zxj:∀k,k<hl.length->hl.getD k 0<256:=λk hk=>by
    obtain⟨x,e1,e2⟩:=zqL hl hk;rw[e2];have:=zd (ml (aK X)).length (mY (aK X)) c x (by show x∈l9 (aK X) c;rw[Dm];exact List.mem_of_getElem? e1);omega
   have MR:=ag Dm;have H1:=ag h1;have H0:=ag h0;have HLT:=ag zxj;obtain⟨⟨ao,cp⟩,e1⟩:=cJ (hI.aq.own 1 (by omega));rw[h1,cW]at e1;have jC:=ag e1;clear Dm h1 h0 zxj;have HI:=ag hI;clear hI;rw[e1];clear e1
   go_wp2_with fail
   go_loopw [7,21] (λcl ki W=>∃k:Nat,k<=hl.length/\ki=zp .i64 k/\cl=zp .i64 (-1)/\pH w0 w W (.slice no Ns.length pq) bv Ns X v (jE (aK X) c)/\∀j,j<k->¬Er (aK X) (hl.getD j 0) c) (λ_ i _=>hl.length-(intOf i).toNat)
   case atStart=>exact⟨0,by omega,rfl,rfl,HI.out,λj h=>absurd h (by omega)⟩
   case round=>
    obtain⟨k,hk,rfl,rfl,hI,hno⟩:=hrel;have zL:=ag hno;clear hno
    by_cases cY:k<hl.length
    ·have fk:(0:Int)<=(k:Int):=by omega
     have cG:(k:Int)<(hl.length:Int):=by omega
     obtain⟨gh,ch,NF,OB,-,hcell⟩:=pC (hI.aq.own 1 (by omega)) (by rw[H1.out,cW];omega);rw[jC.out,H1.out,cW]at NF;cases NF;have ck:=hcell k (by rw[H1.out,cW];exact cY);rw[H1.out,uu]at ck;have hh:=HLT.out k cY;obtain⟨p0,p1⟩:=dM hI.box;obtain⟨h,uZ⟩:∃h,hl.getD k 0=h:=⟨_,rfl⟩;rw[uZ]at ck hh;have CF:=ag uZ;have nz:=ag hI;clear hcell uZ hI
     go_wp2_with fail
     go_loopw [10,29] (λsm ni W2=>∃i:Nat,i<=Ns.length/\ni=zp .i64 i/\sm=.bool true/\pH w0 w W2 (.slice no Ns.length pq) bv Ns X v (jE (aK X) c)/\Cz X h c i) (λ_ i _=>Ns.length-(intOf i).toNat)
     case atStart=>exact⟨0,by omega,rfl,rfl,nz.out,λ_ _ _ _ _ q=>absurd q (by omega)⟩
     case round=>
      obtain⟨i,hi,rfl,rfl,hI,wC⟩:=hrel;have GL:=ag wC;clear wC p0 p1 ck
      by_cases vb:i<Ns.length
      ·have hx:=bE vb;obtain⟨nd,oD⟩:∃nd,Ns[i]=nd:=⟨_,rfl⟩;rw[oD]at hx;clear oD;have Dp:(0:Int)<=(i:Int):=by omega
       have pR:(i:Int)<(Ns.length:Int):=by omega
       rcases hI.sp.al i nd hx with ⟨pS,k5,y,j,hy,hj,eY⟩|⟨pS,ru,jr⟩
       ·obtain⟨sv,rs,e1,e2,e3⟩:=(hI.sp.tr k5 y hy).pos hj;rw[eY]at e1;have RF:=e2;obtain⟨dU,dV,rfl,-⟩:=RF;obtain⟨gn,cn,hne,-,tW,c0,c1,c2,c3⟩:=hI.sp.nx.node e1;cases hne;obtain⟨W2,dY⟩:∃W2,wr.alloc (zw #[.int .u8 115,zp .i64 0,zp .i64 0,.slice dU rs.length dV] 116)=W2:=⟨_,rfl⟩;have b2:zy wr.heap.size wr W2:=by rw[<-dY];exact aC
        have x2:W2.heap[wr.heap.size]?=zh (zw #[.int .u8 115,zp .i64 0,zp .i64 0,.slice dU rs.length dV] 116 (0,0)):=by rw[<-dY];exact aU _ _
        obtain⟨q0,q1,q2,q3⟩:=eu x2;have sj:vU w0 w wr W2 (zn (zh ⟨gn,0,za⟩) Ns.length pq) bv Ns X v (jE (aK X) c) (.int .u8 115) (zp .i64 0) (zp .i64 0) (.slice dU rs.length dV):=⟨x2,hI.call b2,q0,q3⟩;have NI:=sj.call (Below.refl _ _).drew;have Ew:=ag NI;obtain⟨bz,dS⟩:∃bz:Nat->Bool,bz=λz=>y.2.ga.st j z:=⟨_,rfl⟩
        have cH:∀W,vU w0 w wr W (zn (zh ⟨gn,0,za⟩) Ns.length pq) bv Ns X v (jE (aK X) c) (.int .u8 115) (zp .i64 0) (zp .i64 0) (.slice dU rs.length dV)->∀z:Nat,z<256->∀zi:Int,zi=z->zH prog 55 #[.slice dU rs.length dV,.int .u8 zi] W λe W'=>e=.returned (.bool (bz z))/\zy W.heap.size W W':=λW hW z hz zi hzi=>by
         subst hzi;have:=zrP (.slice dU rs.length dV) rs z W (e2.below hW.2.1.sp.bl) hz;rw[e3 z]at this;rw[dS];exact this
        have iD:bz h=bz c->Cz X h c (i+1):=λhe=>GL.out.next hI.sp.cR hy hj eY (by rw[dS]at he;exact he)
        have hsp:bz h≠bz c->¬Er (aK X) (hl.getD k 0) c:=λhe H=>by
         rw[CF.out]at H;apply he;rw[dS];exact H k5 _ j (Mp hy) hj
        have kS:=ag iD;have qU:=ag hsp;have nB:=ag dY;have DC:=ztg hlt;have hwh:=ztg hh;clear dY hI hx x2 sj NI e1 e2 e3 hy hj eY dS iD hsp b2 pS
        go_upto_region 14 with fail
        rw[nB.out];clear nB c0 c1 c2 c3;cases tS:bz c<;>cases Sq:bz h
        ·skip
         go_region_held3 (λw'=>w'.heap[wr.heap.size]?=zh (zw #[.int .u8 115,zp .i64 0,zp .i64 0,.slice dU rs.length dV] 116 (0,0))/\pH w0 w w' (zn (zh ⟨gn,0,za⟩) Ns.length pq) bv Ns X v (jE (aK X) c)/\w'.cell? ⟨wr.heap.size,0,za⟩=zh (.int .u8 115)/\w'.cell? ⟨wr.heap.size,3,za⟩=zh (.slice dU rs.length dV))
          ((first|exact Ew.out|exact vU.call (show vU w0 w wr _ (zn (zh ⟨gn,0,za⟩) Ns.length pq) bv Ns X v (jE (aK X) c) (.int .u8 115) (zp .i64 0) (zp .i64 0) (.slice dU rs.length dV) from by assumption) b1|go_keep))
          ((go_at_call 55;refine(cH _ (by first|exact Ew.out|assumption) _ ?hz _ rfl).mono ?_;(case hz=>first|exact hlt|exact hh);rintro e W1 ⟨rfl,b1⟩))
         all_goals
          have lK:=‹_/\pH _ _ _ _ _ _ _ _ _/\_›;go_wp2
          go_roundw
          case rel=>exact⟨i+1,by omega,by go_num,rfl,lK.2.1,kS.out (by rw[tS,Sq])⟩
          case measure=>simp[intOf];omega
        ·skip
         go_region_held3 (λw'=>w'.heap[wr.heap.size]?=zh (zw #[.int .u8 115,zp .i64 0,zp .i64 0,.slice dU rs.length dV] 116 (0,0))/\pH w0 w w' (zn (zh ⟨gn,0,za⟩) Ns.length pq) bv Ns X v (jE (aK X) c)/\w'.cell? ⟨wr.heap.size,0,za⟩=zh (.int .u8 115)/\w'.cell? ⟨wr.heap.size,3,za⟩=zh (.slice dU rs.length dV))
          ((first|exact Ew.out|exact vU.call (show vU w0 w wr _ (zn (zh ⟨gn,0,za⟩) Ns.length pq) bv Ns X v (jE (aK X) c) (.int .u8 115) (zp .i64 0) (zp .i64 0) (.slice dU rs.length dV) from by assumption) b1|go_keep))
          ((go_at_call 55;refine(cH _ (by first|exact Ew.out|assumption) _ ?hz _ rfl).mono ?_;(case hz=>first|exact hlt|exact hh);rintro e W1 ⟨rfl,b1⟩))
         all_goals
          have lK:=‹_/\pH _ _ _ _ _ _ _ _ _/\_›;go_wp2
          go_roundw
          case rel=>exact⟨k+1,by omega,by go_num,rfl,lK.2.1,λj hj=>by
           rcases jP j k with q|q
           ·exact zL.out j q
           ·obtain rfl:j=k:=by omega
            exact qU.out (by rw[tS,Sq];simp)⟩
          case measure=>simp[intOf];omega
        ·skip
         go_region_held3 (λw'=>w'.heap[wr.heap.size]?=zh (zw #[.int .u8 115,zp .i64 0,zp .i64 0,.slice dU rs.length dV] 116 (0,0))/\pH w0 w w' (zn (zh ⟨gn,0,za⟩) Ns.length pq) bv Ns X v (jE (aK X) c)/\w'.cell? ⟨wr.heap.size,0,za⟩=zh (.int .u8 115)/\w'.cell? ⟨wr.heap.size,3,za⟩=zh (.slice dU rs.length dV))
          ((first|exact Ew.out|exact vU.call (show vU w0 w wr _ (zn (zh ⟨gn,0,za⟩) Ns.length pq) bv Ns X v (jE (aK X) c) (.int .u8 115) (zp .i64 0) (zp .i64 0) (.slice dU rs.length dV) from by assumption) b1|go_keep))
          ((go_at_call 55;refine(cH _ (by first|exact Ew.out|assumption) _ ?hz _ rfl).mono ?_;(case hz=>first|exact hlt|exact hh);rintro e W1 ⟨rfl,b1⟩))
         all_goals
          have lK:=‹_/\pH _ _ _ _ _ _ _ _ _/\_›;go_wp2
          go_roundw
          case rel=>exact⟨k+1,by omega,by go_num,rfl,lK.2.1,λj hj=>by
           rcases jP j k with q|q
           ·exact zL.out j q
           ·obtain rfl:j=k:=by omega
            exact qU.out (by rw[tS,Sq];simp)⟩
          case measure=>simp[intOf];omega
        ·skip
         go_region_held3 (λw'=>w'.heap[wr.heap.size]?=zh (zw #[.int .u8 115,zp .i64 0,zp .i64 0,.slice dU rs.length dV] 116 (0,0))/\pH w0 w w' (zn (zh ⟨gn,0,za⟩) Ns.length pq) bv Ns X v (jE (aK X) c)/\w'.cell? ⟨wr.heap.size,0,za⟩=zh (.int .u8 115)/\w'.cell? ⟨wr.heap.size,3,za⟩=zh (.slice dU rs.length dV))
          ((first|exact Ew.out|exact vU.call (show vU w0 w wr _ (zn (zh ⟨gn,0,za⟩) Ns.length pq) bv Ns X v (jE (aK X) c) (.int .u8 115) (zp .i64 0) (zp .i64 0) (.slice dU rs.length dV) from by assumption) b1|go_keep))
          ((go_at_call 55;refine(cH _ (by first|exact Ew.out|assumption) _ ?hz _ rfl).mono ?_;(case hz=>first|exact hlt|exact hh);rintro e W1 ⟨rfl,b1⟩))
         all_goals
          have lK:=‹_/\pH _ _ _ _ _ _ _ _ _/\_›;go_wp2
          go_roundw
          case rel=>exact⟨i+1,by omega,by go_num,rfl,lK.2.1,kS.out (by rw[tS,Sq])⟩
          case measure=>simp[intOf];omega
       ·obtain⟨kk,ll,rr,sv⟩:=nd;have jr:sv=zn za 0 0:=jr;subst jr;have pS:kk≠115:=pS;obtain⟨gn,cn,hne,-,tW,c0,c1,c2,c3⟩:=hI.sp.nx.node hx;cases hne;have vd:¬(kk:Int)=115:=by omega
        obtain⟨W2,dY⟩:∃W2,wr.alloc (zw #[.int .u8 kk,zp .i64 ll,zp .i64 rr,zn za 0 0] 116)=W2:=⟨_,rfl⟩;have b2:zy wr.heap.size wr W2:=by rw[<-dY];exact aC
        have x2:W2.heap[wr.heap.size]?=zh (zw #[.int .u8 kk,zp .i64 ll,zp .i64 rr,zn za 0 0] 116 (0,0)):=by rw[<-dY];exact aU _ _
        obtain⟨q0,q1,q2,q3⟩:=eu x2;have zwE:=GL.out.skip hx pS (λk y j hy hj=>by obtain⟨sv,rs,h1,-⟩:=(hI.sp.tr k y hy).pos hj;exact⟨sv,h1⟩);have zyv:=ag zwE;have iz:=hI.call b2;have j7:=ag iz;have nB:=ag dY;clear dY zwE iz hI hx x2
        go_upto_region 14 with fail
        rw[nB.out];clear nB c0 c1 c2 c3
        go_quiet (fail)
        go_wp2
        go_roundw
        case rel=>exact⟨i+1,by omega,by go_num,rfl,j7.out.call ⟨rfl,rfl,rfl,ax _,λ_ _=>rfl⟩,zyv.out⟩
        case measure=>simp[intOf];omega
      ·have hie:i=Ns.length:=by omega
       have wC:Er (aK X) (hl.getD k 0) c:=by
        have:=GL.out;rw[hie]at this;rw[CF.out];exact(zqj HS.out.cR).1 this
       obtain⟨bn,Ou⟩:=ztq (bs:=aK X) (c:=c) (k:=k) (by rw[MR.out];exact cY) (by rw[MR.out];exact wC);have zG:=ag bn;have UX:=ag Ou;obtain⟨⟨a0,p0⟩,e0⟩:=cJ (hI.aq.own 0 (by omega));rw[H0.out,Me]at e0;have jg:=ag e0;have k7:¬(k:Int)<0:=by omega
       have hsz:w.heap.size+1<=wr.heap.size:=az hI.box;have eP:=ag hI;clear wC bn Ou e0 hI hie;have hne:¬(i:Int)<(Ns.length:Int):=by omega
       go_wp2_with (at_builtin;refine jw eP.out.aq _ rfl rfl (.tmp 61) (.tmp 63) rfl 0 (by omega) (qX (aK X) c) H0.out c (Me _ _) (by exact rfl) (k:Int) rfl (by omega) hsz ?_;intro g4 c4 W9 E6 IE)
       go_roundw
       case rel=>
        refine⟨c+1,upd v 0 (zn (zh ⟨g4,0,za⟩) (c+1) c4),by omega,by go_num,rfl,?_,?_⟩
        ·rw[bW _ _ (by omega),jC.out]
        ·have:=eP.out.app HS.out (by omega) E6 IE;rw[zsb zG.out UX.out]at this;exact this
       case measure=>simp[intOf];omega
    ·have cI:k=hl.length:=by omega
     obtain⟨bn,Ou⟩:=ztp (bs:=aK X) (c:=c) (by rw[MR.out,<-cI];exact zL.out);have zG:=ag bn;have UX:=ag Ou;obtain⟨⟨a0,p0⟩,e0⟩:=cJ (hI.aq.own 0 (by omega));rw[H0.out,Me]at e0;have jg:=ag e0;have hsz:w.heap.size+1<=wr.heap.size:=az hI.box;have eP:=ag hI;have hne:¬(k:Int)<(hl.length:Int):=by omega
     clear bn Ou e0 hI cI
     go_wp2_with (first
      |(at_builtin;refine jw eP.out.aq _ rfl rfl (.tmp 57) (.tmp 59) rfl 1 (by omega) (aO hl) H1.out hl.length (cW _) (by exact jC.out.symm) (c:Int) rfl (by omega) hsz ?_;intro g4 c4 W9 E6 IE;have GR:=ag (eP.out.app HS.out (by omega) E6 IE);clear E6 IE;have O4:w.heap.size+1<=W9.heap.size:=az GR.out.box)
      |(at_builtin;refine jw GR.out.aq _ rfl rfl (.tmp 61) (.tmp 63) rfl 0 (by omega) (qX (aK X) c) (by rw[a8 _ _ (by omega)];exact H0.out) c (Me _ _) (by rw[bW _ _ (by omega)];rfl) (hl.length:Int) rfl (by omega) O4 ?_;intro g6 c6 Wt sq sC))
     go_roundw
     case rel=>
      refine⟨c+1,upd (upd v 1 (zn (zh ⟨g4,0,za⟩) (hl.length+1) c4)) 0 (zn (zh ⟨g6,0,za⟩) (c+1) c6),by omega,by go_num,rfl,?_,?_⟩
      ·rw[bW _ _ (by omega)];rfl
      ·have:=GR.out.app HS.out (by omega) sq sC;have e:=zsa (bs:=aK X) (c:=c) (k:=hl.length) (by rw[MR.out]) zG.out UX.out;rw[MR.out]at e;rw[e]at this;exact this
     case measure=>simp[intOf];omega
  ·have hcc:c=256:=by omega
   have HI:=ag hI;clear hI;have hne:¬(c:Int)<256:=by omega
   go_wp2;refine bw (v:=.tuple #[v 0,v 1]) (by simp[results,results40,go_sem]) rfl ⟨v,rfl,?_,HI.out.bl⟩;have:=HI.out.aq;rw[hcc]at this;exact this
end
section
variable {W W' Wb W1:zB}{g gt n N db:Nat}{v:Nat -> zx}{gs:Nat -> Nat}{X:Xs}{width:Int}{ls:Nat -> List Int}{sv:zx}{L:List St}
structure KT(T:zD)(W W':zB):Prop where
 os:W'.os=W.os
 tape:W'.tape=W.tape
 output:W'.output=W.output
 size:W.heap.size<=W'.heap.size
 keep:∀(k:Nat) (cs:Array zx) (t:zD),W.heap[k]?=zh (zw cs t (0,0))->t≠T->W'.heap[k]?=zh (zw cs t (0,0))
theorem KT.Z3{T:zD}{o:Option Nat}(h:W.grownBy W' o)(ho:∀g,o=zh g->∃cs,W.heap[g]?=zh (zw cs T (0,0))):KT T W W':=
 ⟨h.os,h.tape,h.output,h.size,λk cs t e ht=>(h.block k (az e) (λe2=>by
  obtain⟨uT,e3⟩:=ho k e2.symm;rw[e]at e3;exact ht (PT e3))).trans e⟩
theorem KT.put{T:zD}{o:Nat}{u:zx}{cs:Array zx}(h:W.heap[g]?=zh (zw cs T (0,0))):KT T W (W.setCell ⟨g,o,za⟩ u):=
 .Z3 (TS W g o u) λg' e=>by cases e;exact⟨cs,h⟩
theorem aS.kt{T:zD}{l:Nat->List Int}(h:aS gt n W v l)(k:KT T W W')(hT:T≠3):aS gt n W' v l:=
 h.sI λi hi b hb=>by
  obtain⟨a9,e⟩:=jx (h.own i hi) hb;exact(k.keep b _ _ e hT.symm).trans e.symm
theorem ziC{T e:zD}{B sz:Nat}{v:zx}{xs:List zx}(h:W.ownsRow B e sz v n xs)(k:KT T W W')(hT:T≠e):W'.ownsRow B e sz v n xs:=
 uo h λb hb=>by
  obtain⟨a9,e⟩:=L5 h hb;exact(k.keep b _ _ e hT.symm).trans e.symm
theorem gZ.kt{T:zD}{m:Nat->Bool}(h:gZ W g N m)(k:KT T W W')(hT:T≠4):gZ W' g N m:=k.keep _ _ _ h hT.symm
def zq(gs:Nat->Nat)(N n:Nat):List zx:=(List.range n).map λk=>zn (zh ⟨gs k,0,za⟩) N N
theorem znX(gs:Nat->Nat)(N n:Nat):zq gs N (n+1)=zq gs N n++[zn (zh ⟨gs n,0,za⟩) N N]:=by simp[zq,List.range_succ]
theorem zl2{gs':Nat->Nat}(h:∀k,k<n->gs k=gs' k):zq gs N n=zq gs' N n:=by
 unfold zq;apply uB;intro k hk;rw[h k (mB.1 hk)]
structure lD(Wb:zB)(gt db:Nat)(W:zB)(X:Xs)(N:Nat)(width:Int)(v:Nat->zx)(ls:Nat->List Int)(sv:zx)(gs:Nat->Nat)(L:List St):Prop where
 jc:Wb.heap.size=gt
 bg:zy gt Wb W
 Kz:gt<=db
 BK:W.heap[db]?=zh (zw (fH width v) 25 (0,0))
 aq:aS gt 5 W v ls
 out:W.ownsRow (gt+1) 37 1 sv L.length (zq gs N L.length)
 row:∀k,k<L.length->gt<=gs k/\∃m,gZ W (gs k) N m/\vS X N m (L.getD k fM)/\He X (L.getD k fM)
theorem lD.call(h:lD Wb gt db W X N width v ls sv gs L)(hb:zy W.heap.size W W'):lD Wb gt db W' X N width v ls sv gs L:=by
 have hl:=az h.BK;have:=h.Kz;exact⟨h.jc,h.bg.trans (hb.mono (by omega)),h.Kz,(hb.block _ hl).trans h.BK,h.aq.below hb,uo h.out λb iQ=>hb.block b (dL h.out iQ).2,λk hk=>by
  obtain⟨h1,m,h2,h3⟩:=h.row k hk;exact⟨h1,m,h2.below hb,h3⟩⟩
theorem lD.size(h:lD Wb gt db W X N width v ls sv gs L):gt+1<=W.heap.size:=by
 have:=az h.BK;have:=h.Kz;omega
theorem lD.field(h:lD Wb gt db W X N width v ls sv gs L)(hb:zy W.heap.size W W1){i off:Nat}(hi:i<4)(ho:sK i=off){u:zx}{ys:List Int}(hF:aS gt 5 W' (upd v i u) (bq ls i ys))(hg:W1.grownBy W' (v i).ownBlock):
  W'.heap[db]?=zh (zw (fH width v) 25 (0,0))/\lD Wb gt db (W'.setCell ⟨db,off,za⟩ u) X N width (upd v i u) (bq ls i ys) sv gs L:=by
 subst ho;have h1:=h.call hb;have k1:KT 3 W1 W':=.Z3 hg λg e=>jx (h1.aq.own i (by omega)) e
 have bN:=k1.keep _ _ _ h1.BK (by decide);have k2:KT 25 W' (W'.setCell ⟨db,sK i,za⟩ u):=KT.put bN;have hs:=h1.size;refine⟨bN,h.jc,?_,h.Kz,?_,hF.kt k2 (by decide),ziC (ziC h1.out k1 (by decide)) k2 (by decide),λk hk=>?_⟩
 ·exact(h1.bg.grown hg (by omega) (λb hb=>by have:=(eN (h1.aq.own i (by omega)) hb).1;omega)).setCell h.Kz _
 ·have:=dx W' db (sK i) _ _ u bN;rw[PX _ _ _ hi]at this;exact this
 ·obtain⟨zZ,m,h2,h3⟩:=h1.row k hk;exact⟨zZ,m,(h2.kt k1 (by decide)).kt k2 (by decide),h3⟩
theorem lD.set{sv':zx}(h:lD Wb gt db W X N width v ls sv gs L)(hb:zy W.heap.size W W1){g:Nat}{S:St}{m:Nat->Bool}(eK:gt<=g)(hm:gZ W g N m)(hi:vS X N m S)(hs:He X S)
  (hO:W'.ownsRow (gt+1) 37 1 sv' (L.length+1) (zq gs N L.length++[zn (zh ⟨g,0,za⟩) N N])) (hg:W1.grownBy W' sv.ownBlock):lD Wb gt db W' X N width v ls sv' (λk=>if k=L.length then g else gs k) (L++[S]):=by
 have h1:=h.call hb;have k1:KT 37 W1 W':=.Z3 hg λg e=>L5 h1.out e
 have hsz:=h1.size;refine⟨h.jc,h1.bg.grown hg (by omega) (λb hb=>by have:=(dL h1.out hb).1;omega),h.Kz,k1.keep _ _ _ h1.BK (by decide),h1.aq.kt k1 (by decide),?_,λk hk=>?_⟩
 ·rw[a6,JO,znX,ae rfl,zl2 (gs':=gs) (λk hk=>ab (by omega))];exact hO
 ·rw[a6,JO]at hk
  by_cases e:k=L.length
  ·rw[ae e];subst e;rw[show (L++[S]).getD L.length fM=S by simp[List.getD]];exact⟨eK,m,(hm.below hb).kt k1 (by decide),hi,hs⟩
  ·rw[ab e];obtain⟨a1,m',a2,a3⟩:=h1.row k (by omega);rw[show (L++[S]).getD k fM=L.getD k fM by simp[List.getD,List.getElem?_append_left (show k<L.length by omega)]];exact⟨a1,m',a2.kt k1 (by decide),a3⟩
theorem lD.at(h:lD Wb gt db W X N width v ls sv gs L){k:Nat}(hk:k<L.length):∃g cap m,sv=zn (zh ⟨g,0,za⟩) L.length cap/\W.cell? ⟨g,k,za⟩=zh (zn (zh ⟨gs k,0,za⟩) N N)/\gZ W (gs k) N m/\vS X N m (L.getD k fM)/\He X (L.getD k fM):=by
 obtain⟨-,m,h2,h3,h4⟩:=h.row k hk;rcases h.out.2 with ⟨_,h0⟩|⟨g,cap,a9,e,hg,ff,_⟩
 ·omega
 ·subst e;refine⟨g,cap,m,rfl,?_,h2,h3,h4⟩;have:=World.ownsRow.cellAt (show W.ownsRow (gt+1) 37 1 (zn (zh ⟨g,0,za⟩) L.length cap) L.length (zq gs N L.length) from h.out) k (by omega);rw[this];simp[zq,hk]
end
variable {l L:List St}{i j c k most K:Nat}{S:St}{bs:List dm}{fst:Bool}{nx:List Nat}
theorem zmr(h:i<l.length):l.getD i fM=l[i]:=by rw[List.getD,bE h];rfl
open Classical in
theorem zsI(h1:1<=j)(h2:j<L.length)(he:L.getD j fM=S)(hn:∀i,1<=i->i<j->L.getD i fM≠S):p7 L S=j:=by
 unfold p7;have hg:∀i,L.tail.getD i fM=L.getD (i+1) fM:=λi=>by cases L<;>simp[List.getD]
 have hl:L.tail.length=L.length-1:=List.length_tail;have:L.tail.findIdx (λT=>decide (T=S))=j-1:=by
  rw[List.findIdx_eq (by omega)];have gd:∀(i:Nat) (h:i<L.tail.length),L.tail[i]=L.getD (i+1) fM:=λi h=>by rw[<-hg,zmr h]
  refine⟨?_,λi hi=>?_⟩
  ·rw[gd,show j-1+1=j by omega,he];simp
  ·rw[gd];simp only[decide_eq_false_iff_not];exact hn (i+1) (by omega) (by omega)
 omega
open Classical in
theorem zq8(h0:0<L.length)(hn:∀i,1<=i->i<L.length->L.getD i fM≠S):p7 L S=L.length:=by
 unfold p7;have hg:∀i,L.tail.getD i fM=L.getD (i+1) fM:=λi=>by cases L<;>simp[List.getD]
 have hl:L.tail.length=L.length-1:=List.length_tail;have:L.tail.findIdx (λT=>decide (T=S))=L.tail.length:=by
  rw[List.findIdx_eq_length];intro x hx;obtain⟨i,hi,rfl⟩:=tu.1 hx;have gd:L.tail[i]=L.getD (i+1) fM:=by rw[<-hg,zmr hi]
  rw[gd];simp only[decide_eq_false_iff_not];exact hn (i+1) (by omega) (by omega)
 omega
theorem ztc(h:p7 L (lh bs fst S c)=j)(hj:j<L.length):vr bs fst S (L,nx) c=(L,nx++[j]):=by
 unfold vr;show (if p7 L (lh bs fst S c)<L.length then L else L++[lh bs fst S c],nx++[p7 L (lh bs fst S c)])=_;rw[h,ae hj]
theorem ztd(h:p7 L (lh bs fst S c)=L.length):vr bs fst S (L,nx) c=(L++[lh bs fst S c],nx++[L.length]):=by
 unfold vr;show (if p7 L (lh bs fst S c)<L.length then L else L++[lh bs fst S c],nx++[p7 L (lh bs fst S c)])=_;rw[h,ab (by omega)]
theorem zoI{t:List St}(h:k<l.length):(l++t).getD k fM=l.getD k fM:=by simp[List.getD,List.getElem?_append_left h]
theorem zmL(bs:List dm)(fst:Bool)(S:St)(st:List St×List Nat)(m:Nat){i:Nat}(h:i<st.1.length):(qO bs fst S st m).1.getD i fM=st.1.getD i fM:=by
 obtain⟨l,e⟩:=zmN bs fst S st m;rw[e,zoI h]
theorem zsQ(bs:List dm)(k d:Nat){i:Nat}(h:i<(dI bs k).1.length):(dI bs (k+d)).1.getD i fM=(dI bs k).1.getD i fM/\(dI bs k).1.length<=(dI bs (k+d)).1.length:=by
 induction d with
 |zero=>exact⟨rfl,ax _⟩
 |succ d ih=>
  have e:dI bs (k+(d+1))=dI bs (k+d+1):=rfl;refine⟨?_,cM ih.2 (by rw[e];exact zlY bs (k+d))⟩;rw[e,Ul,zmL _ _ _ _ _ (by omega)];exact ih.1
noncomputable def Pn (bs:List dm) (k:Nat):St:=(dI bs k).1.getD k fM
theorem zpN(hi:i<=k)(h:i<(dI bs i).1.length):(dI bs k).1.getD i fM=Pn bs i:=by
 have:=(zsQ bs i (k-i) h).1;rw[show i+(k-i)=k by omega]at this;exact this
noncomputable def rL (bs:List dm) (we:Bool) (k:Nat):List Int:=(List.range k).map λi=>zW bs (i==0) (Pn bs i) we
theorem zkX(bs:List dm)(we:Bool)(k:Nat):rL bs we (k+1)=rL bs we k++[zW bs (k==0) (Pn bs k) we]:=by simp[rL,List.range_succ]
theorem Mk(bs:List dm)(we:Bool)(k:Nat):(rL bs we k).length=k:=by simp[rL]
theorem zsv(bs:List dm):0<(iI bs).length:=by
 have mono:∀n,0<(aM (ml bs).length (mY bs) (n+1)).length:=λn=>by
  induction n with
  |zero=>rw[sR];simp[aM,da]
  |succ n ih=>
   rw[sR];split
   ·exact ih
   ·rw[a6];omega
 exact mono 255
theorem zlD(bs:List dm):(iI bs).length<=256:=D9 _ _ 256
theorem ztu(bs:List dm){m:Nat}(h:m<(iI bs).length):(iI bs).getD m 0<256:=by
 refine zd _ _ 256 _ (?_:_∈iI bs);rw[show (iI bs).getD m 0=(iI bs)[m] by simp[List.getD,h]];exact gy _
theorem ztr(bs:List dm){c:Nat}(h:c<256):yk bs c<(iI bs).length:=by
 have h1:da (ml bs).length (mY bs) c<(aM (ml bs).length (mY bs) (c+1)).length:=by
  rw[sR];split
  ·assumption
  ·rw[a6];have:da (ml bs).length (mY bs) c<=(aM (ml bs).length (mY bs) c).length:=JR;simp;omega
 have mono:∀d,(aM (ml bs).length (mY bs) (c+1)).length<=(aM (ml bs).length (mY bs) (c+1+d)).length:=λd=>by
  induction d with
  |zero=>exact ax _
  |succ d ih=>
   refine cM ih ?_;rw[show c+1+(d+1)=(c+1+d)+1 from rfl,sR];split
   ·exact ax _
   ·rw[a6];omega
 have:=mono (255-c);rw[show c+1+(255-c)=256 by omega]at this;exact fR h1 this
theorem Ur{α:Type}{lo hi:Int}{l:List α}{f:α->Int}(h:∀x∈l,lo<=f x/\f x<=hi):fO lo hi (l.map f)=true:=by
 unfold fO;rw[qQ];intro y hy;obtain⟨x,hx,rfl⟩:=rS.1 hy;exact vz.2 (h x hx)
theorem zou(hE:zA bs most K)(hm:most<=4000)(hr:∀(k:Nat) (b:dm),bs[k]?=zh b->b.rule<=99):cL (ie bs K):=by
 have hK:0<K:=by rw[<-hE.len];exact zlZ bs K
 have NU:K<=4000:=by
  have:=(hE.go (K-1) (by omega)).2;rw[show K-1+1=K by omega,hE.len]at this;omega
 have hi:=Ql bs K;have hp:=zsv bs;have hl:=zlD bs;refine⟨by simp[ie],?_,?_,?_,?_,by simp[ie],?_,?_,?_,?_,?_⟩
 ·show (1:Int)<=((iI bs).length:Nat);omega
 ·show (((iI bs).length:Nat):Int)<=256;omega
 ·show (1:Int)<=(((List.range K).map _).length:Nat);rw[jK,El];omega
 ·show ((((List.range K).map _).length:Nat):Int)<=4000;rw[jK,El];omega
 ·show ((((dI bs K).2.map _).length:Nat):Int)=(((List.range K).map _).length:Nat)*((iI bs).length:Nat);rw[jK,jK,El,hi.nl,Int.natCast_mul]
 ·refine Ur λc hc=>?_
  have:=ztr bs (mB.1 hc);show (0:Int)<=(yk bs c:Nat)/\((yk bs c:Nat):Int)<=((iI bs).length:Nat)-1;omega
 ·refine Ur λx hx=>?_
  have:=hi.lt x hx;rw[hE.len]at this;show (0:Int)<=(x:Nat)/\((x:Nat):Int)<=(((List.range K).map _).length:Nat)-1;rw[jK,El];omega
 ·exact Ur λk _=>zrD bs _ _ _ hr
 ·exact Ur λk _=>zrD bs _ _ _ hr
theorem zqA(hE:zA bs most K):(ie bs K).tag=rL bs false K/\(ie bs K).fin=rL bs true K:=by
 constructor
 ·show (List.range K).map _=(List.range K).map _;refine uB λk hk=>?_
  have hk:=mB.1 hk;rw[zpN (Nat.le_of_lt hk) (hE.go k hk).1]
 ·show (List.range K).map _=(List.range K).map _;refine uB λk hk=>?_
  have hk:=mB.1 hk;rw[zpN (Nat.le_of_lt hk) (hE.go k hk).1]
end Go.Proofs.Ytfajjdgkiilhfaa
