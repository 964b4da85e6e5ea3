import Derived.Test.YthddplbodacjgaaGreatDoorC37
import Derived.Test.YthddplbodacjgaaGreatDoorC43
import Derived.Deep.RegionWith
import Derived.Deep.CutRange
namespace Go.Proofs.YthddplbodacjgaaGreatDoor
set_option maxHeartbeats 4000000
set_option maxRecDepth 100000
open Go.RowKit
section
variable {w W W':World}{p n k:Nat}{nv bv:Value}{Ns Ms:List NdX}{X:Xs}{bs:List BrG}{T:GT}{M:GA}
attribute [local go_sem ↓] Go.wp_at_zero Go.wp_at_succ
theorem Tryz.infoBrX:(Tryz.prog.info? 82).map (fun i=>(i.zero,i.size,i.bytes))=some (some (.agg #[.int .i64 0,.bool false,.bool false,.int .i64 0]),4,24):=by kernel_rfl
def b4C(X:Xs):List Value:=X.flatMap fun x=>b4 x.1
theorem zqm(X:Xs)(x:BxD×GT):b4C (X++[x])=b4C X++b4 x.1:=by simp[b4C]
structure LwI(w:World)(p:Nat)(W:World)(nv bv:Value)(Ns:List NdX)(X:Xs)(bs:List BrG)(n:Nat):Prop where
 wt:WtX p W nv bv Ns
 bo:W.ownsRow (p+1) 82 4 bv X.length (b4C X)
 ma:LwM w Ns X
 eq:bsX X=bs
 len:Ns.length=n
 xl:X.length<=n
 res:W.heap[w.heap.size]?=some (.cells #[.slice none 0 0,.slice none 0 0] 45 (0,0))
 bl:Below w.heap.size w W
theorem LwI.below(h:LwI w p W nv bv Ns X bs n)(hb:Below W.heap.size W W'):LwI w p W' nv bv Ns X bs n:=
 ⟨h.wt.below hb,zbB h.bo fun b hb'=>hb.block b (zbs h.bo hb').2,h.ma,h.eq,h.len,h.xl,(hb.block _ (zae h.res)).trans h.res,zaa h.bl h.bl.size hb⟩
theorem LwI.bform(h:LwI w p W nv bv Ns X bs n):∃ao cap,bv=.slice ao X.length cap:=by
 rcases h.bo.2 with ⟨h,h0⟩|⟨g,cap,_,h,_⟩
 ·exact⟨none,0,by rw[h,h0]⟩
 ·exact⟨_,_,h⟩
structure LwJ(w:World)(p:Nat)(W:World)(nv bv:Value)(Ns Ms:List NdX)(X:Xs)(T:GT)(bs:List BrG)(n:Nat)(M:GA)(k:Nat):Prop where
 wt:WtX p W nv bv (Ns++Ms)
 tt:WtT w Ns Ms M k T
 bo:W.ownsRow (p+1) 82 4 bv X.length (b4C X)
 ma:LwM w Ns X
 eq:bsX X=bs
 len:Ns.length=n
 xl:X.length<=n
 res:W.heap[w.heap.size]?=some (.cells #[.slice none 0 0,.slice none 0 0] 45 (0,0))
 bl:Below w.heap.size w W
theorem LwI.write{nv':Value}(h:LwI w p W nv bv Ns X bs n)(hp:p=w.heap.size+1)(kp:KpW p W W')(wt:WtX p W' nv' bv (Ns++Ms))(tt:WtT w Ns Ms M k T):LwJ w p W' nv' bv Ns Ms X T bs n M k:=by
 refine⟨wt,tt,?_,h.ma,h.eq,h.len,h.xl,(kp.low _ (by omega)).trans h.res,kp.base h.bl (by omega)⟩;refine zbB h.bo fun b hb=>?_
 obtain⟨cur,e⟩:=zdM h.bo hb;exact(kp.typ b _ _ e (by decide) (by decide)).trans e.symm
theorem LwJ.below(h:LwJ w p W nv bv Ns Ms X T bs n M k)(hb:Below W.heap.size W W'):LwJ w p W' nv bv Ns Ms X T bs n M k:=
 ⟨h.wt.below hb,h.tt,zbB h.bo fun b hb'=>hb.block b (zbs h.bo hb').2,h.ma,h.eq,h.len,h.xl,(hb.block _ (zae h.res)).trans h.res,zaa h.bl h.bl.size hb⟩
theorem LwJ.done{W1 W9:World}{g cap i:Nat}{bol eol:Bool}(h:LwJ w p W nv bv Ns Ms X T bs n M k)(hp:p=w.heap.size+1)(hb:Below W.heap.size W W1)
  (own9:W9.ownsRow (p+1) 82 4 (.slice (some ⟨g,0,none⟩) (X.length+1) cap) (X.length+1) (b4C X++[.int .i64 (i:Nat),.bool bol,.bool eol,.int .i64 ((Ns.length+Ms.length-1:Nat):Int)])) (grow9:W1.grownBy W9 bv.ownBlock):
  W9.heap[p]?=some (.cells #[nv,bv] 45 (0,0))/\LwI w p (W9.setCell ⟨p,1,none⟩ (.slice (some ⟨g,0,none⟩) (X.length+1) cap)) nv (.slice (some ⟨g,0,none⟩) (X.length+1) cap) (Ns++Ms) (X++[(⟨i,bol,eol,Ns.length+Ms.length-1⟩,T)]) (bs++[⟨i,bol,eol,M⟩]) (n+k)/\(∀(j:Nat) (cs:Array Value) (t:TypeId),W.heap[j]?=some (.cells cs t (0,0))->t≠45->t≠82->(W9.setCell ⟨p,1,none⟩ (.slice (some ⟨g,0,none⟩) (X.length+1) cap)).heap[j]?=some (.cells cs t (0,0))):=by
 have h1:=h.below hb;have hlt:=zae h1.wt.box;have hne:bv.ownBlock≠some p:=fun e=>by have:=(zbs h1.bo e).1;omega
 have hbx:W9.heap[p]?=some (.cells #[nv,bv] 45 (0,0)):=(grow9.block p hlt (fun e=>hne e.symm)).trans h1.wt.box;have keep9:∀(j:Nat) (cs:Array Value) (t:TypeId),W1.heap[j]?=some (.cells cs t (0,0))->t≠82->W9.heap[j]?=some (.cells cs t (0,0)):=fun j cs t e ht=>by
  refine(grow9.block j (zae e) (fun e2=>?_)).trans e;obtain⟨cur,e3⟩:=zdM h1.bo e2.symm;rw[e] at e3;exact ht (zdc e3)
 have hput:=zaN W9 p 1 (.slice (some ⟨g,0,none⟩) (X.length+1) cap);have low:∀j,j<p->(W9.setCell ⟨p,1,none⟩ (.slice (some ⟨g,0,none⟩) (X.length+1) cap)).heap[j]?=W1.heap[j]?:=fun j hj=>by
  rw[zuS _ _ _ _ (by simp;omega)];exact grow9.block j (by omega) (fun e=>by have:=(zbs h1.bo e.symm).1;omega)
 refine⟨hbx,⟨⟨?_,?_⟩,?_,h.ma.snoc h.tt _ rfl,?_,?_,?_,?_,?_⟩,?_⟩
 ·exact zuT W9 p 1 _ _ (.slice (some ⟨g,0,none⟩) (X.length+1) cap) hbx
 ·refine zbB h1.wt.own fun b hb'=>?_
  obtain⟨cur,e⟩:=zdM h1.wt.own hb';have hge:=(zbs h1.wt.own hb').1;rw[zuS _ _ _ _ (by simp;omega)];exact(keep9 b _ _ e (by decide)).trans e.symm
 ·rw[zqm,zt1,zt7];refine zbB own9 fun b hb'=>?_
  have:=(zbs own9 hb').1;exact zuS _ _ _ _ (by simp;omega)
 ·rw[<-h.eq];unfold bsX;rw[zt9];simp[h.tt.ga]
 ·rw[zt1,h.len,h.tt.len]
 ·rw[zt1,zt7];have:=h.xl;have:=h.tt.pos;omega
 ·exact(low _ (by omega)).trans h1.res
 ·exact⟨grow9.os.trans h1.bl.os,grow9.tape.trans h1.bl.tape,grow9.output.trans h1.bl.output,zuA h1.bl.size (zuA grow9.size hput.size),fun j hj=>(low j (by omega)).trans (h1.bl.block j hj)⟩
 ·intro j cs t e ht1 ht2;have e9:=keep9 j cs t ((hb.block j (zae e)).trans e) ht2;refine(zuS _ _ _ _ (fun e2=>?_)).trans e9;simp at e2;subst e2;rw[hbx] at e9;exact ht1 (zdc e9).symm
theorem zs4{α:Type}(f:α->List Value)(hf:∀x,(f x).length=4):∀(l:List α) (i j:Nat) (x:α),l[i]?=some x->j<4->(l.flatMap f)[i*4+j]?=(f x)[j]?
 |[],i,j,x,h,_=>by simp at h
 |a::l,0,j,x,h,hj=>by
  simp at h;subst h;rw[List.flatMap_cons,ztQ (by rw[hf];omega)];simp
 |a::l,i+1,j,x,h,hj=>by
  have:=zs4 f hf l i j x (by simpa using h) hj;rw[List.flatMap_cons,ztR (by rw[hf];omega),hf,show (i+1)*4+j-4=i*4+j by omega];exact this
theorem zrL{α:Type}{B:Nat}{e:TypeId}{v:Value}{l:List α}(f:α->List Value)(hf:∀x,(f x).length=4)(h:w.ownsRow B e 4 v l.length (l.flatMap f)):∃ao cap,v=.slice ao l.length cap/\(0<l.length->∃g,ao=some ⟨g,0,none⟩/\B<=g/\g<w.heap.size/\∀i x,l[i]?=some x->∀j u,(f x)[j]?=some u->w.cell? ⟨g,i*4+j,none⟩=some u):=by
 have h0:=h;rcases h.2 with ⟨rfl,hz⟩|⟨g,cap,cur,rfl,hg,hrow,_⟩
 ·exact⟨none,0,by rw[hz],fun hp=>by omega⟩
 ·refine⟨some ⟨g,0,none⟩,cap,rfl,fun _=>⟨g,rfl,hg,zae hrow,fun i x hx j u hu=>?_⟩⟩;have hi:=(ztV.1 hx).1;have hj:j<4:=by have:=(ztV.1 hu).1;rw[hf] at this;exact this
  have:=World.ownsRow.cellAt (show w.ownsRow B e 4 (.slice (some ⟨g,0,none⟩) l.length cap) l.length (l.flatMap f) from h0) (i*4+j) (by omega);rw[this,zs4 f hf l i j x hx hj,hu]
theorem LwI.spx(h:LwI w p W nv bv Ns X bs n)(hp:p=w.heap.size+1)(hn:n<=8589934592):
  SpX w ((W.setCell ⟨w.heap.size,0,none⟩ nv).setCell ⟨w.heap.size,1,none⟩ bv) nv bv Ns X/\Below w.heap.size w ((W.setCell ⟨w.heap.size,0,none⟩ nv).setCell ⟨w.heap.size,1,none⟩ bv):=by
 have hb:Below w.heap.size w ((W.setCell ⟨w.heap.size,0,none⟩ nv).setCell ⟨w.heap.size,1,none⟩ bv):=(h.bl.setCell (by simp) _).setCell (by simp) _;have hk:∀g o,p<g->((W.setCell ⟨w.heap.size,0,none⟩ nv).setCell ⟨w.heap.size,1,none⟩ bv).cell? ⟨g,o,none⟩=W.cell? ⟨g,o,none⟩:=fun g o hg=>
  World.cell?_of_block (w:=W) (by rw[zuS _ _ _ _ (by simp;omega),zuS _ _ _ _ (by simp;omega)])
 refine⟨⟨⟨by rw[h.len];exact hn,?_⟩,⟨by have:=h.xl;omega,?_⟩,h.ma.tr,h.ma.lab,hb,h.ma.al⟩,hb⟩
 ·obtain⟨ao,cap,e,h1⟩:=zrL nx4 (fun _=>rfl) h.wt.own;refine⟨ao,cap,e,fun h0=>?_⟩;obtain⟨g,e2,hg,hl,hc⟩:=h1 h0;refine⟨g,e2,by simpa [World.setCell] using hl,fun i hi j u hu=>?_⟩;rw[hk g _ (by omega)];have hx:=ztT hi;exact hc i _ hx j u (by rw[show Ns.getD i .zero=Ns[i] by simp[List.getD,hi]] at hu;exact hu)
 ·obtain⟨ao,cap,e,h1⟩:=zrL (fun x:BxD×GT=>b4 x.1) (fun _=>rfl) h.bo;refine⟨ao,cap,e,fun h0=>?_⟩;obtain⟨g,e2,hg,hl,hc⟩:=h1 h0;refine⟨g,e2,by simpa [World.setCell] using hl,fun i x hx j u hu=>?_⟩;rw[hk g _ (by omega)];exact hc i x hx j u hu
end
section
attribute [local go_sem ↓] Go.wp_at_zero Go.wp_at_succ
theorem zeV{w:World}{g:Nat}{a b c:Value}{t:TypeId}(h:w.heap[g]?=some (.cells #[a,b,c] t (0,0))):w.cell? ⟨g,0,none⟩=some a/\w.cell? ⟨g,1,none⟩=some b/\w.cell? ⟨g,2,none⟩=some c:=by
 have:∀o,w.cell? ⟨g,o,none⟩=#[a,b,c][o]?:=fun _=>zuO _ _ _ _ _ _ h
 exact⟨this 0,this 1,this 2⟩
structure WOK(rs:List za0):Prop where
 sm:zdB rs
 ok:∀k,k<rs.length->zku (rs.getD k .zero).branches
 ct:cntR rs<=8589934592
theorem zmb{ns:List zau}(h:zcM ns=true):0<ns.length:=by
 rcases zuy ns.length with h0|h0
 ·have:ns=[]:=ztK h0;subst this;simp[zcM,zd1] at h
 ·exact h0
theorem zna(v:Value)(rs:List za0)(w:World)(hs:zaW 0 w v rs)(hw:WOK rs):
  Calls Tryz.prog 16 #[v] w fun e W=>∃nv bv Ns X,e=.returned (.agg #[nv,bv])/\SpX w W nv bv Ns X/\bsX X=bsR 0 rs/\Below w.heap.size w W:=by
 obtain⟨ao,cap,rfl,hm,hc⟩:=hs;obtain⟨i0,hi,hz0,hz1,hz2⟩:=info_parts Tryz.infoBrX;have hl:=hw.sm.1;obtain⟨p,hp⟩:∃p,p=w.heap.size+1:=⟨_,rfl⟩;obtain⟨W0,hW0⟩:∃W0,(w.alloc (.cells #[.slice none 0 0,.slice none 0 0] 45)).alloc (.cells #[.slice none 0 0,.slice none 0 0] 45)=W0:=⟨_,rfl⟩;have hI0:LwI w p W0 (.slice none 0 0) (.slice none 0 0) [] [] [] 0:=by
  subst hW0;subst hp;refine⟨⟨zmj _ _ _,⟨rfl,.inl ⟨rfl,rfl⟩⟩⟩,⟨rfl,.inl ⟨rfl,rfl⟩⟩,LwM.nil w,rfl,rfl,zuz _,zao (zuR _ _),((Below.refl _ _).alloc (zuz _) _).alloc (by simp) _⟩
 have HC:=hdn hc;have HW:=hdn hw;have HP:=hdn hp;have HW0:=hdn hW0;clear hc hw hW0 hp
 go_enter Tryz.func16,Tryz.ntmps16
 go_upto_region 2 with fail
 rw[HW0.out];clear HW0;rw[<-HP.out]
 go_wp2_with fail
 go_loopw [13] (fun i wr=>∃(k:Nat) (nv bv:Value) (Ns:List NdX) (X:Xs),k<=rs.length/\i=.int .i64 k/\LwI w p wr nv bv Ns X (bsR 0 (rs.take k)) (cntR (rs.take k))) (fun i _=>rs.length-(intOf i).toNat)
 case atStart=>exact⟨0,_,_,_,_,zuL _,rfl,by simpa [bsR,cntR] using hI0⟩
 case round=>
  obtain⟨k,nv,bv,Ns,X,hk,rfl,hI⟩:=hrel;clear hI0
  by_cases hlt:k<rs.length
  ·obtain⟨b,o,rbv,rd,rfl,Hrd,hbl,c0,c1,hbs⟩:=HC.out.elem hI.bl hlt;obtain⟨bo,bc,rfl,hbm,hbc⟩:=hbs;have hsmk:=HW.out.sm.2 k hlt;have hokk:=HW.out.ok k hlt;have hctk:=zji rs hlt;have hctl:=zoa rs (k+1);have hbsk:=zlZ rs hlt;rw[Hrd.out] at hsmk hokk hctk hbsk;have hi0:(0:Int)<=(k:Int):=by omega
   have hi1:(k:Int)<(rs.length:Int):=by omega
   have hbw:b<wr.heap.size:=zuB hbl hI.bl.size;obtain⟨W1,hW1⟩:∃W1,wr.alloc (.cells #[.slice bo rd.branches.length bc,.int .i64 rd.groups] 57)=W1:=⟨_,rfl⟩;have b1:Below wr.heap.size wr W1:=by rw[<-hW1];exact(Below.refl _ _).alloc (zuz _) _
   have x1:W1.heap[wr.heap.size]?=some (.cells #[.slice bo rd.branches.length bc,.int .i64 rd.groups] 57 (0,0)):=by rw[<-hW1];exact zuR _ _
   obtain⟨q0,q1⟩:=zal x1;have hI1:=hI.below b1;have HI1:=hdn hI1;have HW1:=hdn hW1;have HBC:=hdn hbc;have HSM:=hdn hsmk;have HOK:=hdn hokk;have HCT:=hdn hctk;have HCL:=hdn hctl;have HBK:=hdn hbsk;clear hI1 hW1 hbc hsmk hokk hctk hctl hbsk hI b1 x1
   go_upto_region 5 with fail
   rw[HW1.out];clear HW1 c0 c1
   go_wp2_with fail
   go_loopw [21] (fun i wr2=>∃(j:Nat) (nv bv:Value) (Ns:List NdX) (X:Xs),j<=rd.branches.length/\i=.int .i64 j/\LwI w p wr2 nv bv Ns X (bsR 0 (rs.take k)++(zec k rd.branches).take j) (cntR (rs.take k)+cntB (rd.branches.take j))) (fun i _=>rd.branches.length-(intOf i).toNat)
   case atStart=>exact⟨0,_,_,_,_,zuL _,rfl,by simpa [cntB] using HI1.out⟩
   case round=>
    obtain⟨j,nv,bv,Ns,X,hj,rfl,hI⟩:=hrel
    by_cases hjl:j<rd.branches.length
    ·obtain⟨bao,bcp,rfl⟩:=hI.bform;obtain⟨b2,o2,nnv,bd,hboe,Hbd,hbl2,d0,d1,d2,hns⟩:=HBC.out.elem (Below.refl _ _) hjl;cases hboe;obtain⟨nao,ncp,hnne,hnm,hnc⟩:=hns;subst hnne;have hNodes:zaP 0 w (.slice nao bd.nodes.length ncp) bd.nodes:=⟨nao,ncp,rfl,hnm,hnc⟩;have d0:=(hI.bl.cell (p:=⟨b2,o2+j*3,none⟩) hbl2).trans d0;have d1:=(hI.bl.cell (p:=⟨b2,o2+j*3+1,none⟩) hbl2).trans d1;have d2:=(hI.bl.cell (p:=⟨b2,o2+j*3+2,none⟩) hbl2).trans d2;have hbw2:b2<wr.heap.size:=zuB hbl2 hI.bl.size;have hnl:bd.nodes.length<=1048576:=by have:=(HSM.out.2 j hjl).1;rw[Hbd.out] at this;exact this
     obtain⟨hkb,hnb⟩:=HOK.out j hjl;rw[Hbd.out] at hkb hnb;have hpos:=zmb hkb;have hcb:=zjh rd.branches hjl;have hcbl:=zn8 rd.branches (j+1);have hbt:=zhL k rd.branches hjl;rw[Hbd.out] at hcb hbt;have hxl:X.length<=8589934592:=by have:=hI.xl;have:=HCT.out;have:=HCL.out;have:=HW.out.ct;omega
     have hct:Ns.length+cnt (zd6 bd)<=8589934592:=by have:=hI.len;have:=HCT.out;have:=HCL.out;have:=HW.out.ct;omega
     have hj0:(0:Int)<=(j:Int):=by omega
     have hj1:(j:Int)<(rd.branches.length:Int):=by omega
     have hwr:IntKind.i64.wrap ((bd.nodes.length:Int)-1)=((bd.nodes.length-1:Nat):Int):=by rw[IntKind.wrap_i64];omega
     obtain⟨W2,hW2⟩:∃W2,wr.alloc (.cells #[.bool bd.bol,.bool bd.eol,.slice nao bd.nodes.length ncp] 76)=W2:=⟨_,rfl⟩;have b2':Below wr.heap.size wr W2:=by rw[<-hW2];exact(Below.refl _ _).alloc (zuz _) _
     have x2:W2.heap[wr.heap.size]?=some (.cells #[.bool bd.bol,.bool bd.eol,.slice nao bd.nodes.length ncp] 76 (0,0)):=by rw[<-hW2];exact zuR _ _
     have hI2:=(hI.below b2').below (Below.refl _ _).drew;have x2d:W2.drew.heap[wr.heap.size]?=some (.cells #[.bool bd.bol,.bool bd.eol,.slice nao bd.nodes.length ncp] 76 (0,0)):=x2;have crd:=zpe w bd.bol bd.eol nao ncp bd.nodes W2.drew hNodes hI2.bl hnl hkb;have cwr:∀(W3:World) (gl cl gr cr:Nat),Below W2.drew.heap.size W2.drew W3->BrW w W3 bd.nodes (.slice nao bd.nodes.length ncp) gl gr->Calls Tryz.prog 35 #[.pointer (some ⟨p,0,none⟩),.agg #[.slice nao bd.nodes.length ncp,.slice (some ⟨gl,0,none⟩) bd.nodes.length cl,.slice (some ⟨gr,0,none⟩) bd.nodes.length cr,.string ⟨#[]⟩],.int .i64 ((bd.nodes.length-1:Nat):Int)] W3 fun e W4=>∃(i:Nat) (nv':Value) (Ms:List NdX) (T:GT),e=.returned (.int .i64 i)/\Hid (Ns.length+Ms.length-1=i)/\LwJ w p W4 nv' (.slice bao X.length bcp) Ns Ms X T (bsR 0 (rs.take k)++(zec k rd.branches).take j) (cntR (rs.take k)+cntB (rd.branches.take j)) (unf (zd6 bd)) (cnt (zd6 bd))/\W4.heap[wr.heap.size]?=some (.cells #[.bool bd.bol,.bool bd.eol,.slice nao bd.nodes.length ncp] 76 (0,0)):=by
      intro W3 gl cl gr cr h3 hbr;have i3:=hI2.below h3;refine(zp7 w bd.nodes (zd0 hkb) hnb (bd.nodes.length-1) (by omega) p W3 nao ncp gl cl gr cr nv (.slice bao X.length bcp) Ns hbr i3.wt i3.bl (by have:=HP.out;omega) hct).mono ?_;rintro e W4 ⟨nv',Ms,T,rfl,wt4,tt4,kp4⟩;exact⟨_,nv',Ms,T,rfl,rfl,i3.write HP.out kp4 wt4 tt4,kp4.typ _ _ _ ((h3.block _ (zae x2d)).trans x2d) (by decide) (by decide)⟩
     obtain⟨q0,q1,q2⟩:=zeV x2;have HX2:=hdn x2d;have HW2:=hdn hW2;have HCB:=hdn hcb;have HBT:=hdn hbt;clear hnc hNodes hI b2' x2 x2d hI2 hW2 hcb hcbl hbt hct hkb hnb hnm
     go_upto_region 8 with fail
     rw[HW2.out];clear HW2 d0 d1 d2
     go_cut [8] from 25 to 49 (fun tv wx=>∃(i1:Nat) (nv4:Value) (Ms:List NdX) (T:GT),tv=.int .i64 i1/\Hid (Ns.length+Ms.length-1=i1)/\LwJ w p wx nv4 (.slice bao X.length bcp) Ns Ms X T (bsR 0 (rs.take k)++(zec k rd.branches).take j) (cntR (rs.take k)+cntB (rd.branches.take j)) (unf (zd6 bd)) (cnt (zd6 bd))/\wx.heap[wr.heap.size]?=some (.cells #[.bool bd.bol,.bool bd.eol,.slice nao bd.nodes.length ncp] 76 (0,0)))
     case first=>
      go_region_with (first
       |(go_at_call 36;refine crd.mono ?_;rintro e W3 ⟨b3,gl,cl,gr,cr,rfl,hbr⟩;obtain⟨q0,q1,q2⟩:=zeV ((b3.block _ (zae HX2.out)).trans HX2.out))
       |(go_at_call 35;refine(cwr _ _ _ _ _ b3 hbr).mono ?_;rintro e W4 ⟨i1,nv4,Ms,T,rfl,Hi1,J4,x4⟩))
      all_goals
       go_wp2_with fail
       go_meet
       exact⟨i1,nv4,Ms,T,rfl,Hi1,J4,x4⟩
     case rest=>
      obtain⟨i1,nv4,Ms,T,rfl,Hi1,J4,x4⟩:=hcut;obtain⟨q0,q1,q2⟩:=zeV x4;obtain⟨p0,p1⟩:=zal J4.wt.box;have hpl:=zae J4.wt.box;have hwl:=zae x4;have hown:∀W5,Below wc.heap.size wc W5->W5.ownsRow (p+1) 82 4 (.slice bao X.length bcp) X.length (b4C X):=fun W5 h5=>(J4.below h5).bo
      have hdone:∀(W5 W9:World) (g cap9:Nat),Below wc.heap.size wc W5->W9.ownsRow (p+1) 82 4 (.slice (some ⟨g,0,none⟩) (X.length+1) cap9) (X.length+1) (b4C X++[.int .i64 (k:Nat),.bool bd.bol,.bool bd.eol,.int .i64 (i1:Int)])->W5.grownBy W9 (Value.slice bao X.length bcp).ownBlock->_:=fun W5 W9 g cap9 h5 h6 h7=>J4.done (i:=k) (bol:=bd.bol) (eol:=bd.eol) HP.out h5 (by rw[Hi1.out];exact h6) h7
      have HD:=hdn hdone;have HX4:=hdn x4;clear hdone J4 x4 crd cwr
      go_upto_region 9 with fail
      go_region_law ((refine step_append_lies _ (by rfl) (.tmp 37) (.tmp 45) 43 (by rfl) (p+1) 82 i0 _ 4 24 Tryz.underlying43 hi hz0 hz1 hz2 rfl (by omega) (.slice bao X.length bcp) X.length (b4C X) (by rfl) (hown _ (by first|exact((Below.refl _ _).drew.alloc (zuz _) _)|exact((Below.refl _ _).alloc (zuz _) _).drew)) ⟨wc.heap.size,0,none⟩ 1 1 [.int .i64 (k:Nat),.bool bd.bol,.bool bd.eol,.int .i64 (i1:Int)] (by rfl) rfl (zjQ (by first|exact zuR _ _|exact ziT (zuR _ _))) (by intro u hu;simp at hu;rcases hu with rfl|rfl|rfl|rfl<;>rfl) (by omega) (by unfold maxLen;omega) (by omega) (by simp;omega) (wc.heap.size+1) (by simp) ?_;intro g cap9 w9 own9 grow9 at9 lt9;obtain⟨bx9,I9,k9⟩:=HD.out _ w9 g cap9 (by first|exact((Below.refl _ _).drew.alloc (zuz _) _)|exact((Below.refl _ _).alloc (zuz _) _).drew) own9 grow9;obtain⟨y0,y1⟩:=zal bx9;have f9:=zuQ _ _ 1 _ _ bx9))
      all_goals
       rw[ztD (bsR 0 (rs.take k)),Nat.add_assoc (cntR (rs.take k)),<-HBT.out,<-HCB.out] at I9;have HI9:=hdn I9;clear I9 k9 own9 grow9;go_wp2
       go_roundw
       case rel=>exact⟨j+1,_,_,_,_,by omega,by go_num,HI9.out⟩
       case measure=>simp[intOf];omega
    ·have hjj:j=rd.branches.length:=by omega
     have HI:=hdn hI;clear hI;have hne:¬(j:Int)<(rd.branches.length:Int):=by omega
     go_wp2
     go_roundw
     case rel=>
      refine⟨k+1,nv,bv,Ns,X,by omega,by go_num,?_⟩;have:=HI.out;rw[hjj,show (zec k rd.branches).take rd.branches.length=zec k rd.branches from zur (by simp[zec]),show rd.branches.take rd.branches.length=rd.branches from zuq] at this;rw[HBK.out,HCT.out];exact this
     case measure=>simp[intOf];omega
  ·have hkk:k=rs.length:=by omega
   obtain⟨no,nc,rfl⟩:=hI.wt.form;obtain⟨bo,bc,rfl⟩:=hI.bform;rw[hkk,zuq] at hI;have hsp:=hI.spx HP.out HW.out.ct;obtain⟨p0,p1⟩:=zal hI.wt.box;obtain⟨r0,r1⟩:=zal hI.res;have g0:=zuQ _ _ 0 _ _ hI.res;have g1:=zuQ _ _ 1 _ _ hI.res;have r2:=zuT wr w.heap.size 0 _ _ (.slice no Ns.length nc) hI.res;have r3:=zuT _ w.heap.size 1 _ _ (.slice bo X.length bc) r2;obtain⟨t0,t1⟩:=zal r3;have HSP:=hdn hsp;have HEQ:=hdn hI.eq;have hne:¬(k:Int)<(rs.length:Int):=by omega
   clear hI hsp;go_wp2;refine zuN (v:=.agg #[.slice no Ns.length nc,.slice bo X.length bc]) (by simp[results,Tryz.results16,go_sem,t0,t1]) rfl ?_
   first|exact⟨_,_,rfl,Ns,X,HSP.out.1,HEQ.out,HSP.out.2⟩|exact⟨_,_,rfl,⟨Ns,X,HSP.out.1,HEQ.out⟩,HSP.out.2⟩|exact⟨_,_,rfl,Ns,⟨X,HSP.out.1,HEQ.out⟩,HSP.out.2⟩|exact⟨_,_,⟨rfl,Ns,X,HSP.out.1,HEQ.out⟩,HSP.out.2⟩|(trace_state;fail)
end
section
variable {c k:Nat}{bs:List BrG}{w0 w W W':World}{nv bv:Value}{Ns:List NdX}{X:Xs}{v:Nat -> Value}{l:Nat -> List Int}
attribute [local go_sem ↓] Go.wp_at_zero Go.wp_at_succ
theorem zqE(l:List Nat){k:Nat}(h:k<l.length):∃x,l[k]?=some x/\l.getD k 0=x:=⟨l[k],ztT h,by simp[List.getD,h]⟩
theorem zqr{K:Nat}{R:Nat->Nat->Nat}(h:∀j,j<(zah K R c).length->zbZ K R ((zah K R c).getD j 0) c=false):clsF K R c=(zah K R c).length:=by
 rcases zuC (clsF K R c) (zah K R c).length with hl|hl
 ·have:=(zl1 (K:=K) (R:=R) (c:=c) hl).2 rfl;rw[h _ hl] at this;cases this
 ·have:clsF K R c<=(zah K R c).length:=ztN;omega
theorem zs2(hk:k<(hdsU bs c).length)(h:AlkB bs ((hdsU bs c).getD k 0) c):clsG bs c=k/\hdsU bs (c+1)=hdsU bs c:=by
 have h1:clsG bs c=k:=(zl1 hk).1 ((zim bs _ c).2 h);refine⟨h1,?_⟩;unfold hdsU;rw[zba,zuV (show clsF (posG bs).length (posR bs) c<(zah (posG bs).length (posR bs) c).length from by rw[show clsF (posG bs).length (posR bs) c=k from h1];exact hk)]
theorem zs1(h:∀k,k<(hdsU bs c).length->¬AlkB bs ((hdsU bs c).getD k 0) c):clsG bs c=(hdsU bs c).length/\hdsU bs (c+1)=hdsU bs c++[c]:=by
 have h1:clsG bs c=(hdsU bs c).length:=zqr fun j hj=>by
  have:=h j hj;rw[<-zim] at this;exact Bool.eq_false_iff.2 this
 refine⟨h1,?_⟩;unfold hdsU;rw[zba,zuU (show ¬clsF (posG bs).length (posR bs) c<(zah (posG bs).length (posR bs) c).length from by rw[show clsF (posG bs).length (posR bs) c=_ from h1];exact Nat.lt_irrefl _)]
def NdB(w0 w wr W:World)(nv bv:Value)(Ns:List NdX)(X:Xs)(v:Nat->Value)(l:Nat->List Int)(k a b s:Value):Prop:=W.heap[wr.heap.size]?=some (.cells #[k,a,b,s] 85 (0,0))/\BtI w0 w W nv bv Ns X v l/\W.cell? ⟨wr.heap.size,0,none⟩=some k/\W.cell? ⟨wr.heap.size,3,none⟩=some s
theorem NdB.call{wr:World}{k a b s:Value}(h:NdB w0 w wr W nv bv Ns X v l k a b s)(hb:Below W.heap.size W W'):NdB w0 w wr W' nv bv Ns X v l k a b s:=by
 obtain⟨h1,h2,-,-⟩:=h;have h3:=(hb.block _ (zae h1)).trans h1;obtain⟨q0,-,-,q3⟩:=zam h3;exact⟨h3,h2.call hb,q0,q3⟩
theorem BtI.app(h:BtI w0 w W nv bv Ns X v l)(hS:SpX w0 w nv bv Ns X){i:Nat}(hi:i<2){u:Value}{ys:List Int}(hF:Fam w.heap.size 2 W' (upd v i u) (updL l i ys))(hg:W.grownBy W' (v i).ownBlock):BtI w0 w W' nv bv Ns X (upd v i u) (updL l i ys):=by
 have hb:Below w.heap.size w W':=h.bl.grown hg h.bl.size (fun k hk=>by have:=zaR (h.fam.own i hi) hk;omega);exact⟨h.fam.others hi hg (by decide) h.box,hS.below hb,hF,hb⟩
theorem zr0(h1:clsG bs c=k)(h2:hdsU bs (c+1)=hdsU bs c):updL (btL bs c) 0 (clsC bs c++[(k:Int)])=btL bs (c+1):=by
 funext i
 by_cases hi:i=0
 ·subst hi;rw[zar];show _=clsC bs (c+1);rw[zjg,h1]
 ·rw[zaf _ _ hi];unfold btL;rw[zuU hi,zuU hi,h2]
theorem zrZ(h0:(hdsU bs c).length=k)(h1:clsG bs c=(hdsU bs c).length)(h2:hdsU bs (c+1)=hdsU bs c++[c]):updL (updL (btL bs c) 1 (zav (hdsU bs c)++[(c:Int)])) 0 (clsC bs c++[(k:Int)])=btL bs (c+1):=by
 funext i
 by_cases hi:i=0
 ·subst hi;rw[zar];show _=clsC bs (c+1);rw[zjg,h1,h0]
 ·rw[zaf _ _ hi]
  by_cases hj:i=1
  ·subst hj;rw[zar];unfold btL;rw[zuU hi,zuV rfl,h2];simp[zav]
  ·rw[zaf _ _ hj];unfold btL;rw[zuU hi,zuU hi,zuU hj,zuU hj]
theorem zm9(w0 w:World)(nv bv:Value)(Ns:List NdX)(X:Xs)(hS:SpX w0 w nv bv Ns X):
  Calls Tryz.prog 17 #[.agg #[nv,bv]] w fun e W=>∃v,e=.returned (.tuple #[v 0,v 1])/\Fam w.heap.size 2 W v (btL (bsX X) 256)/\Below w.heap.size w W:=by
 have hln:=hS.nx.len;obtain⟨no,ncap,rfl,-⟩:=hS.nx.at_;obtain⟨W0,hW0⟩:∃W0,((w.alloc (.cells #[.slice no Ns.length ncap,bv] 45)).alloc (.cells #[] 3)).alloc (.cells #[] 3)=W0:=⟨_,rfl⟩;have hI0:BtI w0 w W0 (.slice no Ns.length ncap) bv Ns X (upd (upd (fun _=>.slice none 0 0) 0 (.slice (some ⟨w.heap.size+1,0,none⟩) 0 0)) 1 (.slice (some ⟨w.heap.size+2,0,none⟩) 0 0)) (btL (bsX X) 0):=by
  subst hW0;have b0:Below w.heap.size w (w.alloc (.cells #[.slice no Ns.length ncap,bv] 45)):=(Below.refl _ _).alloc (zuz _) _;have x0:(w.alloc (.cells #[.slice no Ns.length ncap,bv] 45)).heap[w.heap.size]?=some (.cells #[.slice no Ns.length ncap,bv] 45 (0,0)):=zuR _ _;have f0:Fam w.heap.size 0 (w.alloc (.cells #[.slice no Ns.length ncap,bv] 45)) (fun _=>.slice none 0 0) (fun _=>[]):=Fam.nil _ _ _;have f1:=f0.new (by simp);have f2:=f1.new (by simp);have b1:Below w.heap.size w (((w.alloc (.cells #[.slice no Ns.length ncap,bv] 45)).alloc (.cells #[] 3)).alloc (.cells #[] 3)):=(b0.alloc (by simp) _).alloc (by simp;omega) _;refine⟨zao (zao x0),hS.below b1,?_,b1⟩;refine f2.congr (fun i hi=>?_) (fun i hi=>?_)
  ·rcases i with _|_|i
   ·simp[upd]
   ·simp[upd]
   ·omega
  ·rcases i with _|_|i
   ·simp[updL,btL,clsC]
   ·simp[updL,btL,hdsU,zah,zav]
   ·omega
 have HW0:=hdn hW0;have HS:=hdn hS;clear hW0 hS
 go_enter Tryz.func17,Tryz.ntmps17
 go_upto_region 3 with fail
 rw[HW0.out];clear HW0
 go_wp2_with fail
 go_loopw [4,5,6] (fun cv hv ci wr=>∃(c:Nat) (v:Nat->Value),c<=256/\ci=.int .i64 c/\cv=v 0/\hv=v 1/\BtI w0 w wr (.slice no Ns.length ncap) bv Ns X v (btL (bsX X) c)) (fun _ _ i _=>256-(intOf i).toNat)
 case atStart=>exact⟨0,upd (upd (fun _=>.slice none 0 0) 0 (.slice (some ⟨w.heap.size+1,0,none⟩) 0 0)) 1 (.slice (some ⟨w.heap.size+2,0,none⟩) 0 0),by omega,rfl,rfl,rfl,hI0⟩
 case round=>
  obtain⟨c,v,hc,rfl,rfl,rfl,hI⟩:=hrel;clear hI0
  by_cases hlt:c<256
  ·have hlt':(c:Int)<256:=by omega
   obtain⟨hl,hhl⟩:∃hl,hdsU (bsX X) c=hl:=⟨_,rfl⟩;have hl256:hl.length<=256:=by rw[<-hhl];have:=zcq (posG (bsX X)).length (posR (bsX X)) c;unfold hdsU;omega
   have h1:btL (bsX X) c 1=zav hl:=by unfold btL;rw[zuU (by omega),zuV rfl,hhl]
   have h0:btL (bsX X) c 0=clsC (bsX X) c:=rfl;have hhlt:∀k,k<hl.length->hl.getD k 0<256:=fun k hk=>by
    obtain⟨x,e1,e2⟩:=zqE hl hk;rw[e2];have:=zc0 (posG (bsX X)).length (posR (bsX X)) c x (by show x∈hdsU (bsX X) c;rw[hhl];exact List.mem_of_getElem? e1);omega
   have HHL:=hdn hhl;have H1:=hdn h1;have H0:=hdn h0;have HLT:=hdn hhlt;obtain⟨⟨ao,cp⟩,e1⟩:=zaj (hI.fam.own 1 (by omega));rw[h1,zag] at e1;have HE1:=hdn e1;clear hhl h1 h0 hhlt;have HI:=hdn hI;clear hI;rw[e1];clear e1
   go_wp2_with fail
   go_loopw [7,21] (fun cl ki W=>∃k:Nat,k<=hl.length/\ki=.int .i64 k/\cl=.int .i64 (-1)/\BtI w0 w W (.slice no Ns.length ncap) bv Ns X v (btL (bsX X) c)/\∀j,j<k->¬AlkB (bsX X) (hl.getD j 0) c) (fun _ i _=>hl.length-(intOf i).toNat)
   case atStart=>exact⟨0,by omega,rfl,rfl,HI.out,fun j h=>absurd h (by omega)⟩
   case round=>
    obtain⟨k,hk,rfl,rfl,hI,hno⟩:=hrel;have HNO:=hdn hno;clear hno
    by_cases hkl:k<hl.length
    ·have hi0:(0:Int)<=(k:Int):=by omega
     have hi1:(k:Int)<(hl.length:Int):=by omega
     obtain⟨gh,ch,ehe,hgh,-,hcell⟩:=zbe (hI.fam.own 1 (by omega)) (by rw[H1.out,zag];omega);rw[HE1.out,H1.out,zag] at ehe;cases ehe;have ck:=hcell k (by rw[H1.out,zag];exact hkl);rw[H1.out,zbw] at ck;have hh:=HLT.out k hkl;obtain⟨p0,p1⟩:=zal hI.box;obtain⟨h,hhe⟩:∃h,hl.getD k 0=h:=⟨_,rfl⟩;rw[hhe] at ck hh;have HHE:=hdn hhe;have HI2:=hdn hI;clear hcell hhe hI
     go_wp2_with fail
     go_loopw [10,29] (fun sm ni W2=>∃i:Nat,i<=Ns.length/\ni=.int .i64 i/\sm=.bool true/\BtI w0 w W2 (.slice no Ns.length ncap) bv Ns X v (btL (bsX X) c)/\AlkN X h c i) (fun _ i _=>Ns.length-(intOf i).toNat)
     case atStart=>exact⟨0,by omega,rfl,rfl,HI2.out,fun _ _ _ _ _ q=>absurd q (by omega)⟩
     case round=>
      obtain⟨i,hi,rfl,rfl,hI,hal⟩:=hrel;have HAL:=hdn hal;clear hal p0 p1 ck
      by_cases hin:i<Ns.length
      ·have hx:=ztT hin;obtain⟨nd,hnd⟩:∃nd,Ns[i]=nd:=⟨_,rfl⟩;rw[hnd] at hx;clear hnd;have hj0:(0:Int)<=(i:Int):=by omega
       have hj1:(i:Int)<(Ns.length:Int):=by omega
       rcases hI.sp.al i nd hx with ⟨hk5,k5,y,j,hy,hj,hat⟩|⟨hk5,hk6,hsv⟩
       ·obtain⟨sv,rs,e1,e2,e3⟩:=(hI.sp.tr k5 y hy).pos hj;rw[hat] at e1;have e2':=e2;obtain⟨sao,scp,rfl,-⟩:=e2';obtain⟨gn,cn,hne,-,hgn,c0,c1,c2,c3⟩:=hI.sp.nx.node e1;cases hne;obtain⟨W2,hW2⟩:∃W2,wr.alloc (.cells #[.int .u8 115,.int .i64 0,.int .i64 0,.slice sao rs.length scp] 85)=W2:=⟨_,rfl⟩;have b2:Below wr.heap.size wr W2:=by rw[<-hW2];exact(Below.refl _ _).alloc (zuz _) _
        have x2:W2.heap[wr.heap.size]?=some (.cells #[.int .u8 115,.int .i64 0,.int .i64 0,.slice sao rs.length scp] 85 (0,0)):=by rw[<-hW2];exact zuR _ _
        obtain⟨q0,q1,q2,q3⟩:=zam x2;have hB2:NdB w0 w wr W2 (.slice (some ⟨gn,0,none⟩) Ns.length ncap) bv Ns X v (btL (bsX X) c) (.int .u8 115) (.int .i64 0) (.int .i64 0) (.slice sao rs.length scp):=⟨x2,hI.call b2,q0,q3⟩;have hBd:=hB2.call (Below.refl _ _).drew;have HBd:=hdn hBd;obtain⟨bz,hbz⟩:∃bz:Nat->Bool,bz=fun z=>y.2.ga.st j z:=⟨_,rfl⟩
        have cH:∀W,NdB w0 w wr W (.slice (some ⟨gn,0,none⟩) Ns.length ncap) bv Ns X v (btL (bsX X) c) (.int .u8 115) (.int .i64 0) (.int .i64 0) (.slice sao rs.length scp)->∀z:Nat,z<256->∀zi:Int,zi=z->Calls Tryz.prog 37 #[.slice sao rs.length scp,.int .u8 zi] W fun e W'=>e=.returned (.bool (bz z))/\Below W.heap.size W W':=fun W hW z hz zi hzi=>by
         subst hzi;have:=zrB (.slice sao rs.length scp) rs z W (e2.below hW.2.1.sp.bl) hz;rw[e3 z] at this;rw[hbz];exact this
        have hnx:bz h=bz c->AlkN X h c (i+1):=fun he=>HAL.out.next hI.sp.lab hy hj hat (by rw[hbz] at he;exact he)
        have hsp:bz h≠bz c->¬AlkB (bsX X) (hl.getD k 0) c:=fun he H=>by
         rw[HHE.out] at H;apply he;rw[hbz];exact H k5 _ j (zfw hy) hj
        have HNX:=hdn hnx;have HSP:=hdn hsp;have HW2:=hdn hW2;have hwc:=zsO hlt;have hwh:=zsO hh;clear hW2 hI hx x2 hB2 hBd e1 e2 e3 hy hj hat hbz hnx hsp b2 hk5
        go_upto_region 14 with fail
        rw[HW2.out];clear HW2 c0 c1 c2 c3;cases hbc:bz c<;>cases hbh:bz h
        ·skip
         go_region_held3 (fun w'=>w'.heap[wr.heap.size]?=some (.cells #[.int .u8 115,.int .i64 0,.int .i64 0,.slice sao rs.length scp] 85 (0,0))/\BtI w0 w w' (.slice (some ⟨gn,0,none⟩) Ns.length ncap) bv Ns X v (btL (bsX X) c)/\w'.cell? ⟨wr.heap.size,0,none⟩=some (.int .u8 115)/\w'.cell? ⟨wr.heap.size,3,none⟩=some (.slice sao rs.length scp))
          ((first|exact HBd.out|exact NdB.call (show NdB w0 w wr _ (.slice (some ⟨gn,0,none⟩) Ns.length ncap) bv Ns X v (btL (bsX X) c) (.int .u8 115) (.int .i64 0) (.int .i64 0) (.slice sao rs.length scp) from by assumption) b1|go_keep))
          ((go_at_call 37;refine(cH _ (by first|exact HBd.out|assumption) _ ?hz _ rfl).mono ?_;(case hz=>first|exact hlt|exact hh);rintro e W1 ⟨rfl,b1⟩))
         all_goals
          have hfin:=‹_/\BtI _ _ _ _ _ _ _ _ _/\_›;go_wp2
          go_roundw
          case rel=>exact⟨i+1,by omega,by go_num,rfl,hfin.2.1,HNX.out (by rw[hbc,hbh])⟩
          case measure=>simp[intOf];omega
        ·skip
         go_region_held3 (fun w'=>w'.heap[wr.heap.size]?=some (.cells #[.int .u8 115,.int .i64 0,.int .i64 0,.slice sao rs.length scp] 85 (0,0))/\BtI w0 w w' (.slice (some ⟨gn,0,none⟩) Ns.length ncap) bv Ns X v (btL (bsX X) c)/\w'.cell? ⟨wr.heap.size,0,none⟩=some (.int .u8 115)/\w'.cell? ⟨wr.heap.size,3,none⟩=some (.slice sao rs.length scp))
          ((first|exact HBd.out|exact NdB.call (show NdB w0 w wr _ (.slice (some ⟨gn,0,none⟩) Ns.length ncap) bv Ns X v (btL (bsX X) c) (.int .u8 115) (.int .i64 0) (.int .i64 0) (.slice sao rs.length scp) from by assumption) b1|go_keep))
          ((go_at_call 37;refine(cH _ (by first|exact HBd.out|assumption) _ ?hz _ rfl).mono ?_;(case hz=>first|exact hlt|exact hh);rintro e W1 ⟨rfl,b1⟩))
         all_goals
          have hfin:=‹_/\BtI _ _ _ _ _ _ _ _ _/\_›;go_wp2
          go_roundw
          case rel=>exact⟨k+1,by omega,by go_num,rfl,hfin.2.1,fun j hj=>by
           rcases zuC j k with q|q
           ·exact HNO.out j q
           ·obtain rfl:j=k:=by omega
            exact HSP.out (by rw[hbc,hbh];simp)⟩
          case measure=>simp[intOf];omega
        ·skip
         go_region_held3 (fun w'=>w'.heap[wr.heap.size]?=some (.cells #[.int .u8 115,.int .i64 0,.int .i64 0,.slice sao rs.length scp] 85 (0,0))/\BtI w0 w w' (.slice (some ⟨gn,0,none⟩) Ns.length ncap) bv Ns X v (btL (bsX X) c)/\w'.cell? ⟨wr.heap.size,0,none⟩=some (.int .u8 115)/\w'.cell? ⟨wr.heap.size,3,none⟩=some (.slice sao rs.length scp))
          ((first|exact HBd.out|exact NdB.call (show NdB w0 w wr _ (.slice (some ⟨gn,0,none⟩) Ns.length ncap) bv Ns X v (btL (bsX X) c) (.int .u8 115) (.int .i64 0) (.int .i64 0) (.slice sao rs.length scp) from by assumption) b1|go_keep))
          ((go_at_call 37;refine(cH _ (by first|exact HBd.out|assumption) _ ?hz _ rfl).mono ?_;(case hz=>first|exact hlt|exact hh);rintro e W1 ⟨rfl,b1⟩))
         all_goals
          have hfin:=‹_/\BtI _ _ _ _ _ _ _ _ _/\_›;go_wp2
          go_roundw
          case rel=>exact⟨k+1,by omega,by go_num,rfl,hfin.2.1,fun j hj=>by
           rcases zuC j k with q|q
           ·exact HNO.out j q
           ·obtain rfl:j=k:=by omega
            exact HSP.out (by rw[hbc,hbh];simp)⟩
          case measure=>simp[intOf];omega
        ·skip
         go_region_held3 (fun w'=>w'.heap[wr.heap.size]?=some (.cells #[.int .u8 115,.int .i64 0,.int .i64 0,.slice sao rs.length scp] 85 (0,0))/\BtI w0 w w' (.slice (some ⟨gn,0,none⟩) Ns.length ncap) bv Ns X v (btL (bsX X) c)/\w'.cell? ⟨wr.heap.size,0,none⟩=some (.int .u8 115)/\w'.cell? ⟨wr.heap.size,3,none⟩=some (.slice sao rs.length scp))
          ((first|exact HBd.out|exact NdB.call (show NdB w0 w wr _ (.slice (some ⟨gn,0,none⟩) Ns.length ncap) bv Ns X v (btL (bsX X) c) (.int .u8 115) (.int .i64 0) (.int .i64 0) (.slice sao rs.length scp) from by assumption) b1|go_keep))
          ((go_at_call 37;refine(cH _ (by first|exact HBd.out|assumption) _ ?hz _ rfl).mono ?_;(case hz=>first|exact hlt|exact hh);rintro e W1 ⟨rfl,b1⟩))
         all_goals
          have hfin:=‹_/\BtI _ _ _ _ _ _ _ _ _/\_›;go_wp2
          go_roundw
          case rel=>exact⟨i+1,by omega,by go_num,rfl,hfin.2.1,HNX.out (by rw[hbc,hbh])⟩
          case measure=>simp[intOf];omega
       ·obtain⟨kk,ll,rr,sv⟩:=nd;have hsv:sv=.slice none 0 0:=hsv;subst hsv;have hk5:kk≠115:=hk5;obtain⟨gn,cn,hne,-,hgn,c0,c1,c2,c3⟩:=hI.sp.nx.node hx;cases hne;have hk7:¬(kk:Int)=115:=by omega
        obtain⟨W2,hW2⟩:∃W2,wr.alloc (.cells #[.int .u8 kk,.int .i64 ll,.int .i64 rr,.slice none 0 0] 85)=W2:=⟨_,rfl⟩;have b2:Below wr.heap.size wr W2:=by rw[<-hW2];exact(Below.refl _ _).alloc (zuz _) _
        have x2:W2.heap[wr.heap.size]?=some (.cells #[.int .u8 kk,.int .i64 ll,.int .i64 rr,.slice none 0 0] 85 (0,0)):=by rw[<-hW2];exact zuR _ _
        obtain⟨q0,q1,q2,q3⟩:=zam x2;have hal2:=HAL.out.skip hx hk5 (fun k y j hy hj=>by obtain⟨sv,rs,h1,-⟩:=(hI.sp.tr k y hy).pos hj;exact⟨sv,h1⟩);have HAL2:=hdn hal2;have hI2:=hI.call b2;have HI3:=hdn hI2;have HW2:=hdn hW2;clear hW2 hal2 hI2 hI hx x2
        go_upto_region 14 with fail
        rw[HW2.out];clear HW2 c0 c1 c2 c3
        go_quiet (fail)
        go_wp2
        go_roundw
        case rel=>exact⟨i+1,by omega,by go_num,rfl,HI3.out.call ⟨rfl,rfl,rfl,zuz _,fun _ _=>rfl⟩,HAL2.out⟩
        case measure=>simp[intOf];omega
      ·have hie:i=Ns.length:=by omega
       have hal:AlkB (bsX X) (hl.getD k 0) c:=by
        have:=HAL.out;rw[hie] at this;rw[HHE.out];exact(zqj HS.out.lab).1 this
       obtain⟨hcl,hds⟩:=zs2 (bs:=bsX X) (c:=c) (k:=k) (by rw[HHL.out];exact hkl) (by rw[HHL.out];exact hal);have HCL:=hdn hcl;have HDS:=hdn hds;obtain⟨⟨a0,p0⟩,e0⟩:=zaj (hI.fam.own 0 (by omega));rw[H0.out,zex] at e0;have HE0:=hdn e0;have hkn:¬(k:Int)<0:=by omega
       have hsz:w.heap.size+1<=wr.heap.size:=zae hI.box;have HI4:=hdn hI;clear hal hcl hds e0 hI hie;have hne:¬(i:Int)<(Ns.length:Int):=by omega
       go_wp2_with (at_builtin;refine za4 HI4.out.fam _ rfl rfl (.tmp 61) (.tmp 63) rfl 0 (by omega) (clsC (bsX X) c) H0.out c (zex _ _) (by exact rfl) (k:Int) rfl (by omega) hsz ?_;intro g4 c4 W9 hF9 hg9)
       go_roundw
       case rel=>
        refine⟨c+1,upd v 0 (.slice (some ⟨g4,0,none⟩) (c+1) c4),by omega,by go_num,rfl,?_,?_⟩
        ·rw[zaD _ _ (by omega),HE1.out]
        ·have:=HI4.out.app HS.out (by omega) hF9 hg9;rw[zr0 HCL.out HDS.out] at this;exact this
       case measure=>simp[intOf];omega
    ·have hkk:k=hl.length:=by omega
     obtain⟨hcl,hds⟩:=zs1 (bs:=bsX X) (c:=c) (by rw[HHL.out,<-hkk];exact HNO.out);have HCL:=hdn hcl;have HDS:=hdn hds;obtain⟨⟨a0,p0⟩,e0⟩:=zaj (hI.fam.own 0 (by omega));rw[H0.out,zex] at e0;have HE0:=hdn e0;have hsz:w.heap.size+1<=wr.heap.size:=zae hI.box;have HI4:=hdn hI;have hne:¬(k:Int)<(hl.length:Int):=by omega
     clear hcl hds e0 hI hkk
     go_wp2_with (first
      |(at_builtin;refine za4 HI4.out.fam _ rfl rfl (.tmp 57) (.tmp 59) rfl 1 (by omega) (zav hl) H1.out hl.length (zag _) (by exact HE1.out.symm) (c:Int) rfl (by omega) hsz ?_;intro g4 c4 W9 hF9 hg9;have HI5:=hdn (HI4.out.app HS.out (by omega) hF9 hg9);clear hF9 hg9;have hsz5:w.heap.size+1<=W9.heap.size:=zae HI5.out.box)
      |(at_builtin;refine za4 HI5.out.fam _ rfl rfl (.tmp 61) (.tmp 63) rfl 0 (by omega) (clsC (bsX X) c) (by rw[zaf _ _ (by omega)];exact H0.out) c (zex _ _) (by rw[zaD _ _ (by omega)];rfl) (hl.length:Int) rfl (by omega) hsz5 ?_;intro g6 c6 W10 hF10 hg10))
     go_roundw
     case rel=>
      refine⟨c+1,upd (upd v 1 (.slice (some ⟨g4,0,none⟩) (hl.length+1) c4)) 0 (.slice (some ⟨g6,0,none⟩) (c+1) c6),by omega,by go_num,rfl,?_,?_⟩
      ·rw[zaD _ _ (by omega)];rfl
      ·have:=HI5.out.app HS.out (by omega) hF10 hg10;have e:=zrZ (bs:=bsX X) (c:=c) (k:=hl.length) (by rw[HHL.out]) HCL.out HDS.out;rw[HHL.out] at e;rw[e] at this;exact this
     case measure=>simp[intOf];omega
  ·have hcc:c=256:=by omega
   have HI:=hdn hI;clear hI;have hne:¬(c:Int)<256:=by omega
   go_wp2;refine zuN (v:=.tuple #[v 0,v 1]) (by simp[results,Tryz.results17,go_sem]) rfl ⟨v,rfl,?_,HI.out.bl⟩;have:=HI.out.fam;rw[hcc] at this;exact this
end
section
variable {W W' Wb W1:World}{g gt n N db:Nat}{v:Nat -> Value}{gs:Nat -> Nat}{X:Xs}{width:Int}{ls:Nat -> List Int}{sv:Value}{L:List St}
structure KT(T:TypeId)(W W':World):Prop where
 os:W'.os=W.os
 tape:W'.tape=W.tape
 output:W'.output=W.output
 size:W.heap.size<=W'.heap.size
 keep:∀(k:Nat) (cs:Array Value) (t:TypeId),W.heap[k]?=some (.cells cs t (0,0))->t≠T->W'.heap[k]?=some (.cells cs t (0,0))
theorem KT.of_grown{T:TypeId}{o:Option Nat}(h:W.grownBy W' o)(ho:∀g,o=some g->∃cs,W.heap[g]?=some (.cells cs T (0,0))):KT T W W':=
 ⟨h.os,h.tape,h.output,h.size,fun k cs t e ht=>(h.block k (zae e) (fun e2=>by
  obtain⟨cs',e3⟩:=ho k e2.symm;rw[e] at e3;exact ht (zdc e3))).trans e⟩
theorem KT.put{T:TypeId}{o:Nat}{u:Value}{cs:Array Value}(h:W.heap[g]?=some (.cells cs T (0,0))):KT T W (W.setCell ⟨g,o,none⟩ u):=
 .of_grown (zaN W g o u) fun g' e=>by cases e;exact⟨cs,h⟩
theorem Fam.kt{T:TypeId}{l:Nat->List Int}(h:Fam gt n W v l)(k:KT T W W')(hT:T≠3):Fam gt n W' v l:=
 h.keepO fun i hi b hb=>by
  obtain⟨cur,e⟩:=za9 (h.own i hi) hb;exact(k.keep b _ _ e hT.symm).trans e.symm
theorem zh7{T e:TypeId}{B sz:Nat}{v:Value}{xs:List Value}(h:W.ownsRow B e sz v n xs)(k:KT T W W')(hT:T≠e):W'.ownsRow B e sz v n xs:=
 zbB h fun b hb=>by
  obtain⟨cur,e⟩:=zdM h hb;exact(k.keep b _ _ e hT.symm).trans e.symm
theorem Mks.kt{T:TypeId}{m:Nat->Bool}(h:Mks W g N m)(k:KT T W W')(hT:T≠4):Mks W' g N m:=k.keep _ _ _ h hT.symm
def zf6(gs:Nat->Nat)(N n:Nat):List Value:=(List.range n).map fun k=>.slice (some ⟨gs k,0,none⟩) N N
theorem znF(gs:Nat->Nat)(N n:Nat):zf6 gs N (n+1)=zf6 gs N n++[.slice (some ⟨gs n,0,none⟩) N N]:=by simp[zf6,List.range_succ]
theorem zlE{gs':Nat->Nat}(h:∀k,k<n->gs k=gs' k):zf6 gs N n=zf6 gs' N n:=by
 unfold zf6;apply zua;intro k hk;rw[h k (zuh.1 hk)]
structure CmI(Wb:World)(gt db:Nat)(W:World)(X:Xs)(N:Nat)(width:Int)(v:Nat->Value)(ls:Nat->List Int)(sv:Value)(gs:Nat->Nat)(L:List St):Prop where
 top:Wb.heap.size=gt
 bg:Below gt Wb W
 dge:gt<=db
 dbx:W.heap[db]?=some (.cells (rowD width v) 26 (0,0))
 fam:Fam gt 5 W v ls
 out:W.ownsRow (gt+1) 49 1 sv L.length (zf6 gs N L.length)
 row:∀k,k<L.length->gt<=gs k/\∃m,Mks W (gs k) N m/\IsM X N m (L.getD k zaZ)/\Supp X (L.getD k zaZ)
theorem CmI.call(h:CmI Wb gt db W X N width v ls sv gs L)(hb:Below W.heap.size W W'):CmI Wb gt db W' X N width v ls sv gs L:=by
 have hl:=zae h.dbx;have:=h.dge;exact⟨h.top,h.bg.trans (hb.mono (by omega)),h.dge,(hb.block _ hl).trans h.dbx,h.fam.below hb,zbB h.out fun b hb'=>hb.block b (zbs h.out hb').2,fun k hk=>by
  obtain⟨h1,m,h2,h3⟩:=h.row k hk;exact⟨h1,m,h2.below hb,h3⟩⟩
theorem CmI.size(h:CmI Wb gt db W X N width v ls sv gs L):gt+1<=W.heap.size:=by
 have:=zae h.dbx;have:=h.dge;omega
theorem CmI.field(h:CmI Wb gt db W X N width v ls sv gs L)(hb:Below W.heap.size W W1){i off:Nat}(hi:i<4)(ho:offD i=off){u:Value}{ys:List Int}(hF:Fam gt 5 W' (upd v i u) (updL ls i ys))(hg:W1.grownBy W' (v i).ownBlock):
  W'.heap[db]?=some (.cells (rowD width v) 26 (0,0))/\CmI Wb gt db (W'.setCell ⟨db,off,none⟩ u) X N width (upd v i u) (updL ls i ys) sv gs L:=by
 subst ho;have h1:=h.call hb;have k1:KT 3 W1 W':=.of_grown hg fun g e=>za9 (h1.fam.own i (by omega)) e
 have hbx:=k1.keep _ _ _ h1.dbx (by decide);have k2:KT 26 W' (W'.setCell ⟨db,offD i,none⟩ u):=KT.put hbx;have hs:=h1.size;refine⟨hbx,h.top,?_,h.dge,?_,hF.kt k2 (by decide),zh7 (zh7 h1.out k1 (by decide)) k2 (by decide),fun k hk=>?_⟩
 ·exact(h1.bg.grown hg (by omega) (fun b hb=>by have:=(zaR (h1.fam.own i (by omega)) hb).1;omega)).setCell h.dge _
 ·have:=zuT W' db (offD i) _ _ u hbx;rw[ziR _ _ _ hi] at this;exact this
 ·obtain⟨h1',m,h2,h3⟩:=h1.row k hk;exact⟨h1',m,(h2.kt k1 (by decide)).kt k2 (by decide),h3⟩
theorem CmI.set{sv':Value}(h:CmI Wb gt db W X N width v ls sv gs L)(hb:Below W.heap.size W W1){g:Nat}{S:St}{m:Nat->Bool}(hge:gt<=g)(hm:Mks W g N m)(hi:IsM X N m S)(hs:Supp X S)
  (hO:W'.ownsRow (gt+1) 49 1 sv' (L.length+1) (zf6 gs N L.length++[.slice (some ⟨g,0,none⟩) N N])) (hg:W1.grownBy W' sv.ownBlock):CmI Wb gt db W' X N width v ls sv' (fun k=>if k=L.length then g else gs k) (L++[S]):=by
 have h1:=h.call hb;have k1:KT 49 W1 W':=.of_grown hg fun g e=>zdM h1.out e
 have hsz:=h1.size;refine⟨h.top,h1.bg.grown hg (by omega) (fun b hb=>by have:=(zbs h1.out hb).1;omega),h.dge,k1.keep _ _ _ h1.dbx (by decide),h1.fam.kt k1 (by decide),?_,fun k hk=>?_⟩
 ·rw[zt1,zt7,znF,zuV rfl,zlE (gs':=gs) (fun k hk=>zuU (by omega))];exact hO
 ·rw[zt1,zt7] at hk
  by_cases e:k=L.length
  ·rw[zuV e];subst e;rw[show (L++[S]).getD L.length zaZ=S by simp[List.getD]];exact⟨hge,m,(hm.below hb).kt k1 (by decide),hi,hs⟩
  ·rw[zuU e];obtain⟨a1,m',a2,a3⟩:=h1.row k (by omega);rw[show (L++[S]).getD k zaZ=L.getD k zaZ by simp[List.getD,List.getElem?_append_left (show k<L.length by omega)]];exact⟨a1,m',a2.kt k1 (by decide),a3⟩
theorem CmI.at(h:CmI Wb gt db W X N width v ls sv gs L){k:Nat}(hk:k<L.length):∃g cap m,sv=.slice (some ⟨g,0,none⟩) L.length cap/\W.cell? ⟨g,k,none⟩=some (.slice (some ⟨gs k,0,none⟩) N N)/\Mks W (gs k) N m/\IsM X N m (L.getD k zaZ)/\Supp X (L.getD k zaZ):=by
 obtain⟨-,m,h2,h3,h4⟩:=h.row k hk;rcases h.out.2 with ⟨_,h0⟩|⟨g,cap,cur,e,hg,hrow,_⟩
 ·omega
 ·subst e;refine⟨g,cap,m,rfl,?_,h2,h3,h4⟩;have:=World.ownsRow.cellAt (show W.ownsRow (gt+1) 49 1 (.slice (some ⟨g,0,none⟩) L.length cap) L.length (zf6 gs N L.length) from h.out) k (by omega);rw[this];simp[zf6,hk]
end
variable {gt:Nat}{v:Nat -> Value}{l:Nat -> List Int}
attribute [local go_sem ↓] Go.wp_at_zero Go.wp_at_succ
def lsC(cl nx tg en hd:List Int):Nat->List Int:=fun i=>if i=0 then cl else if i=1 then nx else if i=2 then tg else if i=3 then en else if i=4 then hd else []
theorem zta(cl nx tg en hd x:List Int):updL (lsC cl nx tg en hd) 1 x=lsC cl x tg en hd:=by
 funext i
 by_cases h:i=1
 ·subst h;rw[zar];rfl
 ·rw[zaf _ _ h];unfold lsC;rw[zuU h,zuU h]
theorem zti(cl nx tg en hd x:List Int):updL (lsC cl nx tg en hd) 2 x=lsC cl nx x en hd:=by
 funext i
 by_cases h:i=2
 ·subst h;rw[zar];rfl
 ·rw[zaf _ _ h];unfold lsC;rw[zuU h,zuU h]
theorem ztj(cl nx tg en hd x:List Int):updL (lsC cl nx tg en hd) 3 x=lsC cl nx tg x hd:=by
 funext i
 by_cases h:i=3
 ·subst h;rw[zar];rfl
 ·rw[zaf _ _ h];unfold lsC;rw[zuU h,zuU h]
def vC(a b:Value):Nat->Value:=fun i=>if i=0 then a else if i=4 then b else .slice none 0 0
theorem zqv{W:World}(h:Fam gt 2 W v l):Fam gt 5 W (vC (v 0) (v 1)) (lsC (l 0) [] [] [] (l 1)):=by
 have nil:∀B,Owns B W (.slice none 0 0) []:=fun B=>⟨rfl,.inl ⟨rfl,rfl⟩⟩
 have nb:∀b,(Value.slice none 0 0).ownBlock≠some b:=fun b=>by simp[Value.ownBlock]
 refine⟨fun i hi=>?_,fun i j hi hj hij b hb=>?_⟩
 ·match i,hi with
  |0,_=>exact h.own 0 (by omega)
  |1,_=>exact nil _
  |2,_=>exact nil _
  |3,_=>exact nil _
  |4,_=>exact h.own 1 (by omega)
 ·have cl:∀i,i<5->i≠0->i≠4->vC (v 0) (v 1) i=.slice none 0 0:=fun i _ h0 h4=>by unfold vC;rw[zuU h0,zuU h4]
  by_cases i0:i=0
  ·subst i0
   by_cases j4:j=4
   ·subst j4;exact h.apart 0 1 (by omega) (by omega) (by omega) b hb
   ·rw[cl j hj (by omega) j4];exact nb b
  ·by_cases i4:i=4
   ·subst i4
    by_cases j0:j=0
    ·subst j0;exact h.apart 1 0 (by omega) (by omega) (by omega) b hb
    ·rw[cl j hj j0 (by omega)];exact nb b
   ·rw[cl i hi i0 i4] at hb;exact absurd hb (nb b)
theorem CmI.start{We Wf W1:World}{X:Xs}{N:Nat}{width:Int}(htop:We.heap.size=gt)(hf:Fam gt 2 Wf v l)(hb:Below gt We Wf)(hle:gt<=Wf.heap.size)
  (hg:(Wf.alloc (.cells (rowD width (vC (v 0) (v 1))) 26)).grownBy W1 none) (hm:Mks W1 (Wf.heap.size+1) N (fun _=>false)):
  CmI We gt Wf.heap.size (W1.alloc (.cells #[.slice (some ⟨Wf.heap.size+1,0,none⟩) N N] 49)) X N width (vC (v 0) (v 1)) (lsC (l 0) [] [] [] (l 1)) (.slice (some ⟨W1.heap.size,0,none⟩) 1 1) (fun _=>Wf.heap.size+1) [zaZ]:=by
 have b1:Below Wf.heap.size Wf (Wf.alloc (.cells (rowD width (vC (v 0) (v 1))) 26)):=(Below.refl _ _).alloc (zuz _) _;have b2:Below (Wf.alloc (.cells (rowD width (vC (v 0) (v 1))) 26)).heap.size (Wf.alloc (.cells (rowD width (vC (v 0) (v 1))) 26)) W1:=(Below.refl _ _).grown hg (zuz _) (by intro k h;cases h);have b3:Below W1.heap.size W1 (W1.alloc (.cells #[.slice (some ⟨Wf.heap.size+1,0,none⟩) N N] 49)):=(Below.refl _ _).alloc (zuz _) _;have s1:Wf.heap.size+1=(Wf.alloc (.cells (rowD width (vC (v 0) (v 1))) 26)).heap.size:=by simp
 have s2:=b2.size;have d0:(Wf.alloc (.cells (rowD width (vC (v 0) (v 1))) 26)).heap[Wf.heap.size]?=some (.cells (rowD width (vC (v 0) (v 1))) 26 (0,0)):=zuR _ _;have bb:Below Wf.heap.size Wf (W1.alloc (.cells #[.slice (some ⟨Wf.heap.size+1,0,none⟩) N N] 49)):=(b1.trans (b2.mono (by omega))).trans (b3.mono (by omega));refine⟨htop,hb.trans (bb.mono hle),hle,(b3.block _ (by omega)).trans ((b2.block _ (zae d0)).trans d0),(zqv hf).below bb,?_,fun k hk=>?_⟩
 ·refine⟨rfl,.inr ⟨W1.heap.size,1,_,rfl,by omega,zuR _ _,zuz _,by unfold maxLen;omega,rfl,rfl⟩⟩
 ·have hk:k<1:=hk;obtain rfl:k=0:=by omega
  exact⟨by omega,_,hm.below b3,zqJ X N,zpI X⟩
end Go.Proofs.YthddplbodacjgaaGreatDoor
