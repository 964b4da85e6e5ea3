import Derived.Test.YtdimhpfiieepiaaGreatDoorC35
import Derived.BigQuiet
namespace Go.Proofs.YtdimhpfiieepiaaGreatDoor
open Proofs.Tryz
open Value renaming int->za,slice->zf,pointer->zl,agg->zm
open Option renaming none->zb,some->zc
open RowKit renaming Hid->zd,Below->zk
open Go renaming World->ze,Value->zj,Calls->zn
open Obj renaming cells->zh
set_option maxHeartbeats 4000000
set_option maxRecDepth 100000
open Go.RowKit
attribute [local go_sem ↓] wp_at_zero wp_at_succ
section
variable {w:ze}{lo:Nat}
theorem zt3{cE:Nat}{e:TypeId}{sz n:Nat}{g m c:Nat}{xs:List zj}(h:w.ownsRow lo e sz (zf (zc ⟨g,0,zb⟩) m c) n xs)(hl:cE<=g):w.ownsRow cE e sz (zf (zc ⟨g,0,zb⟩) m c) n xs:=by
 refine⟨h.1,?_⟩;rcases h.2 with ⟨h2,_⟩|⟨g',cap,ax,h1,h2,h3⟩
 ·cases h2
 ·cases h1;exact .inr ⟨g,_,ax,rfl,hl,h3⟩
def Y0(G:Nat)(bs:List aV)(t:ByteArray)(a e:Nat)(cl:Bool)(r:List (Int×Int)):Prop:=
 ((∀k,k<bs.length->¬iA (bs.getD k .zero) t a e cl)/\r=[])\/∃k,k<bs.length/\(∀j,j<k->¬iA (bs.getD j .zero) t a e cl)/\iA (bs.getD k .zero) t a e cl/\∃l,Pl t.data.toList (a8 (bs.getD k .zero).nodes ((bs.getD k .zero).nodes.length-1)) a e l/\r=gQ (gB ((a:Int),(e:Int)) G) l
def RD(w0:ze)(pl:Nat)(Q:Nat->Option Pt)(qz:Nat->Nat->Prop)(WI:ze)(G:Nat)(bs:List aV)(t:ByteArray)(a e:Nat)(cl:Bool)(x:Ending)(w':ze):Prop:=
 ∃r v aF,Y0 G bs t a e cl r/\x=.returned v/\w'.ownsRow WI.heap.size 71 2 v r.length (pv r)/\cY w0 pl Q qz WI aF w'/\∀k b,v.ownBlock=zc k->¬aF k b
theorem zrI{P:Program}{o:Oper}{a:Act}{K:Act->ze->Prop}{Q:Exit->Act->ze->Prop}(x:Operand)(xs:Array Operand)(ats:Array TypeId)
  (ho:o.op=.call {callee:=.value x,args:=xs,argTypes:=ats}) (f:FuncId) (Tl:Array zj) (hx:a.eval x=.func (.func f) #[] Tl) (args:Array zj) (CZ:(#[]++xs.map a.eval++Tl:Array zj)=args) (R:zj->ze->Prop) (pV:(callFunc f args).run P w=.ok (.enter f args) w)
  (hc:zn P f args w λe w'=>∃v,e=.returned v/\R v w') (h:∀v w',R v w'->K (a.put o.dst v) w'):Oper.wp P o a w K Q:=by
 obtain⟨dst,op,type,pos,after,guard⟩:=o;simp only at ho;subst ho;have e:execOp a.eval {dst,op:=.call {callee:=.value x,args:=xs,argTypes:=ats},type,pos,after,guard}=callFunc f (#[]++xs.map a.eval++Tl):=by
  show (do let d <-Deferred.ofValue (a.eval x) (xs.map a.eval);invoke d.target d.args)=_;rw[hx]
  rfl
 unfold Oper.wp;rw[e,CZ,pV,Oper.upon_enter];refine hc.mono ?_;rintro e w' ⟨v,rfl,hR⟩;exact h v w' hR
theorem zkU(w wB:ze)(EU:zk w.heap.size w wB)(bs:List aV)(ao:Option Addr)(cap:Nat)(hs:eh lo w (.slice ao bs.length cap) bs)(hlen:bs.length<=100000)(G:Nat)(hG:G<=500)(pl:Nat)(Q:Nat->Option Pt)(vP:zj)(ps:List (Nat×Pt))(w0:ze)(hN:jB wB pl (za .i64 (G:Int)) (.slice ao bs.length cap) w0 Q vP ps)(dC:ps.length=bs.length)(t:ByteArray)(ht:t.size<=4096)(a e:Nat)(Il:a<=e)(Iu:e<=t.size)(cl:Bool)
  (hE:∀k,k<bs.length->ij (kG ps k) (a8 (bs.getD k .zero).nodes ((bs.getD k .zero).nodes.length-1))) (cJ:∀k,k<bs.length->∀l,Pl t.data.toList (a8 (bs.getD k .zero).nodes ((bs.getD k .zero).nodes.length-1)) a e l->∀x∈l,1<=x.1/\x.1<((G+1:Nat):Int)) (qz:Nat->Nat->Prop) (WI:ze) (zg:cF w0 pl Q qz WI):
  zn prog 104 #[zl (zc ⟨pl,0,zb⟩),.string t,za .i64 a,za .i64 e,.bool cl] WI λx w'=>RD w0 pl Q qz WI G bs t a e cl x w':=by
 obtain⟨iD,fB,uU,dG,hc⟩:=hs;cases uU;have cb:WI.cell? ⟨pl,1,zb⟩=zc (.slice ao bs.length cap):=by
  obtain⟨⟨room,h1⟩,_⟩:=hN.cells zg;exact(aM _ _ _ _ _ _ h1:_=_)
 have GP:zd (∀W Ow,cF w0 pl Q Ow W->zk w.heap.size w W/\wB.heap.size<=W.heap.size):=λW Ow hI=>⟨aq EU EU.size (hN.bu hI),(hN.bu hI).size⟩
 have Oe:zd (∀k,k<bs.length->(Lg t.data.toList (kG ps k) a e↔In (a8 (bs.getD k .zero).nodes ((bs.getD k .zero).nodes.length-1)) ((t.data.toList.drop a).take (e-a)))):=λk hk=>by
  unfold Lg;rw[(hE k hk).wd];have:t.data.toList.length=t.size:=by simp
  exact⟨λh=>h.2.2,λh=>⟨Il,by omega,h⟩⟩
 have Kc:zd (∀k,k<bs.length->dU wB.heap.size w0 pl Q (qV ps k) (kG ps k)):=λk hk=>hN.kd.fin _ (B8 (Gq (by omega)))
 have Ao:zd (∀W Ow,cF w0 pl Q Ow W->∀k,k<bs.length->∃gp cp,vP=zf (zc ⟨gp,0,zb⟩) bs.length cp/\W.cell? ⟨pl,2,zb⟩=zc (zf (zc ⟨gp,0,zb⟩) bs.length cp)/\W.cell? ⟨gp,k,zb⟩=zc (zl (zc ⟨qV ps k,0,zb⟩))):=λW Ow hI k hk=>by
  obtain⟨⟨room,h1⟩,h2⟩:=hN.cells hI;obtain⟨gp,cp,hv⟩:∃gp cp,vP=zf (zc ⟨gp,0,zb⟩) ps.length cp:=by
   rcases h2.2 with ⟨_,e2⟩|⟨g,c,ax,e,_⟩
   ·omega
   ·exact⟨g,c,e⟩
  subst hv;exact⟨gp,cp,by rw[dC],by have:=(wN h1).1;rw[dC]at this;exact this,X9 h2 (Gq (by omega))⟩
 have Oa:zd (∀W Ow,cF w0 pl Q Ow W->∃x2 x3,W.heap[pl]?=zc (zh #[za .i64 (G:Int),.slice ao bs.length cap,x2,x3] 189 (0,0))):=λW Ow hI=>by
  obtain⟨⟨room,h1⟩,_⟩:=hN.cells hI;exact⟨_,_,h1⟩
 have xd:=aA (show cY w0 pl Q qz WI qz WI from⟨zg,aj _,λ_ _ _ h=>⟨rfl,h⟩,λ_ _ e=>e⟩);have HE:=aA hE;have Sk:=aA cJ;have hex:(t.extract a e).size=e-a:=by rw[ByteArray.size_extract];omega
 clear zg hE cJ hN EU
 go_enter func104,ntmps104
 go_wp2;clear cb
 go_loopw [19] (λiv wr=>∃(k:Nat) (Ow:Nat->Nat->Prop),iv=za .i64 k/\k<=bs.length/\zd (cY w0 pl Q qz WI Ow wr)/\zd (∀j,j<k->¬iA (bs.getD j .zero) t a e cl))
  (λiv _=>bs.length-(intOf iv).toNat)
 case atStart=>exact⟨0,_,rfl,aR _,xd,λj hj=>absurd hj (cR _)⟩
 case round=>
  clear xd;obtain⟨k,Ow,rfl,hk,oN,sR⟩:=hrel;have HI:=aA oN.out.inv;have aD:=(GP.out wr Ow HI.out).1
  by_cases hlt:k<bs.length
  ·obtain⟨b,o,nv,bd,rfl,Hn,aZ,c0,c1,c2,ir⟩:=hc.elem aD hlt;obtain⟨dM,iX,rfl,mQ,kW⟩:=ir;clear kW;have gZ:(0:Int)<=(k:Int):=by omega
   have db:(k:Int)<(bs.length:Int):=by omega
   obtain⟨V,hV⟩:∃V,wr.alloc (zh #[.bool bd.aX,.bool bd.bm,.slice dM bd.nodes.length iX] 115)=V:=⟨_,rfl⟩;have gG:zk wr.heap.size wr V:=by rw[<-hV];exact aw
   have xV:V.heap[wr.heap.size]?=zc (zh #[.bool bd.aX,.bool bd.bm,.slice dM bd.nodes.length iX] 115 (0,0)):=by rw[<-hV];exact aI _ _
   obtain⟨d0,d1,d2,-,-,-⟩:=ci xV;have Me:wr.heap.size<V.heap.size:=(ah.1 xV).1;have sY:=aA (cY.bR HI.out gG);have Av:=aA xV;have s9:zd (BO (bs.getD k .zero).aX (bs.getD k .zero).bm t.size a e cl=((a==0 || !bd.aX)&&((cl&&e==t.size) || !bd.bm))):=by show _=_;rw[Hn.out,zh1]
   clear gG xV
   go_upto_region 4 with fail
   clear hV c0 c1 c2
   go_cut [47] from 24 to 47 (λv47 wx=>∃(aF:Nat->Nat->Prop) (bb:Bool),v47=.bool bb/\zd (cY w0 pl Q Ow wr aF wx)/\zd (bb=true↔iA (bs.getD k .zero) t a e cl))
   case first=>
    have pX:zn prog 128 #[zm #[.bool bd.aX,.bool bd.bm,.slice dM bd.nodes.length iX],za .i64 a] V.drew λr w'=>∃v,r=.returned v/\v=.bool (a==0 || !bd.aX)/\zk V.drew.heap.size V.drew w':=(zgK bd.aX bd.bm dM bd.nodes.length iX a V.drew).mono λr w' h=>⟨_,h.1,rfl,h.2⟩
    have tD:∀W1,zk V.drew.heap.size V.drew W1->zd (cY w0 pl Q Ow wr Ow W1):=λW1 hb=>sY.out.below (((Below.refl V.heap.size V).drew).trans hb)
    have uS:∀W1,zk V.drew.heap.size V.drew W1->W1.cell? ⟨wr.heap.size,0,zb⟩=zc (.bool bd.aX)/\W1.cell? ⟨wr.heap.size,1,zb⟩=zc (.bool bd.bm)/\W1.cell? ⟨wr.heap.size,2,zb⟩=zc (.slice dM bd.nodes.length iX):=λW1 hb=>by
     obtain⟨f0,f1,f2,-,-,-⟩:=ci ((hb.block _ Me).trans Av.out);exact⟨f0,f1,f2⟩
    have fP:prog.follows .mixedOrders=true:=by kernel_rfl
    refine zhl fP ?_;refine Jn [] [0,1] [2,3] 20 (λw'=>w'=V.drew) rfl (by kernel_rfl) (λ_ _ h=>h) (λ_ _ _ _ h=>h.elim) ?_ _ rfl;intro os bW;simp only[jQ,jR,jT,jS]at bW;subst bW
    change wpQuiet _ _ _ _ [_,_] _
    repeat (go_big_quiet_step (fail))
    refine wpQuiet_nil ?_;rintro w' rfl r' bV;simp only[jQ,jR,jT,jS]at bV;subst bV
    change wpList _ _ _ [_,_] _ _
    go_wp2_with fail
    refine pX.mono ?_;rintro r1 W1 ⟨v1,rfl,rfl,ag⟩;have ly:=tD W1 ag;obtain⟨f0,f1,f2⟩:=uS W1 ag;clear pX d0 d1 d2;cases dw:(a==0 || !bd.aX)
    ·have HF:zd (false=true↔iA (bs.getD k .zero) t a e cl):=⟨λh=>(by cases h),λh=>by have:=h.1;rw[s9.out,dw]at this;cases this⟩;go_wp2;rw[su];refine Jn [0,1,2,3] [4,5,6,7] [8,9,10] 13 (λw'=>w'=W1) rfl (by kernel_rfl) (λ_ _ h=>h) (λ_ _ _ _ h=>h.elim) ?_ _ rfl;intro os bW;simp only[jQ,jR,jT,jS]at bW;subst bW
     change wpQuiet _ _ _ _ [_,_,_,_] _
     repeat (go_big_quiet_step (fail))
     refine wpQuiet_nil ?_;rintro w' hw' r' bV;replace hw':W1=w':=Eq.symm hw';subst hw';simp only[jQ,jR,jT,jS]at bV;subst bV
     change wpList _ _ _ [_,_,_] _ _
     go_wp2;rw[su];refine Jn [0,1,2,3,4,5,6,7,8,9,10] [11,12,13,14,15,16,17,18,19,20,21] [22,23] 0 (λw'=>w'=W1) rfl (by kernel_rfl) (λ_ _ h=>h) (λ_ _ _ _ h=>h.elim) ?_ _ rfl;intro os bW;simp only[jQ,jR,jT,jS]at bW;subst bW
     change wpQuiet _ _ _ _ [_,_,_,_,_,_,_,_,_,_,_] _
     repeat (go_big_quiet_step (fail))
     refine wpQuiet_nil ?_;rintro w' hw' r' bV;replace hw':W1=w':=Eq.symm hw';subst hw';simp only[jQ,jR,jT,jS]at bV;subst bV
     change wpList _ _ _ [_,_] _ _
     go_wp2;rw[su];refine⟨by kernel_rfl,?_⟩;rw[vl];go_wp2
     go_meet
     exact⟨Ow,false,rfl,ly,HF⟩
    ·have tH:zn prog 123 #[zm #[.bool bd.aX,.bool bd.bm,.slice dM bd.nodes.length iX],.string t,za .i64 e,.bool cl] W1 λr w'=>∃v,r=.returned v/\v=.bool ((cl&&e==t.size) || !bd.bm)/\zk W1.heap.size W1 w':=(zj2 bd.aX bd.bm cl dM bd.nodes.length iX t e W1).mono λr w' h=>⟨_,h.1,rfl,h.2⟩
     go_wp2;rw[su];refine Jn [0,1,2,3] [4,5,6,7] [8,9,10] 13 (λw'=>w'=W1) rfl (by kernel_rfl) (λ_ _ h=>h) (λ_ _ _ _ h=>h.elim) ?_ _ rfl;intro os bW;simp only[jQ,jR,jT,jS]at bW;subst bW
     change wpQuiet _ _ _ _ [_,_,_,_] _
     repeat (go_big_quiet_step (fail))
     refine wpQuiet_nil ?_;rintro w' hw' r' bV;replace hw':W1=w':=Eq.symm hw';subst hw';simp only[jQ,jR,jT,jS]at bV;subst bV
     change wpList _ _ _ [_,_,_] _ _
     go_wp2_with fail
     refine tH.mono ?_;rintro r2 W2 ⟨v2,rfl,rfl,ae⟩;have mI:=aA (ly.out.below ae);clear tH f0 f1 f2;cases dG:((cl&&e==t.size) || !bd.bm)
     ·have HF:zd (false=true↔iA (bs.getD k .zero) t a e cl):=⟨λh=>(by cases h),λh=>by have:=h.1;rw[s9.out,dw,dG]at this;cases this⟩;go_wp2;rw[su];refine Jn [0,1,2,3,4,5,6,7,8,9,10] [11,12,13,14,15,16,17,18,19,20,21] [22,23] 0 (λw'=>w'=W2) rfl (by kernel_rfl) (λ_ _ h=>h) (λ_ _ _ _ h=>h.elim) ?_ _ rfl;intro os bW;simp only[jQ,jR,jT,jS]at bW;subst bW
      change wpQuiet _ _ _ _ [_,_,_,_,_,_,_,_,_,_,_] _
      repeat (go_big_quiet_step (fail))
      refine wpQuiet_nil ?_;rintro w' hw' r' bV;replace hw':W2=w':=Eq.symm hw';subst hw';simp only[jQ,jR,jT,jS]at bV;subst bV
      change wpList _ _ _ [_,_] _ _
      go_wp2;rw[su];refine⟨by kernel_rfl,?_⟩;rw[vl];go_wp2
      go_meet
      exact⟨Ow,false,rfl,mI,HF⟩
     ·obtain⟨gp,cp,VA,k2,k3⟩:=Ao.out W2 Ow mI.out.inv k hlt;have tG:=zhT W2 mI.out.inv (Kc.out k hlt).q (t.extract a e) (by rw[hex];omega);have i0:(0:Int)<=(a:Int):=by omega
      have i1:(a:Int)<=(e:Int):=by omega
      have i2:(e:Int)<=(t.size:Int):=by omega
      have Hpt:zd (BO (bs.getD k .zero).aX (bs.getD k .zero).bm t.size a e cl=true):=by show _=_;rw[s9.out,dw,dG];rfl
      go_wp2;rw[su];refine Jn [0,1,2,3,4,5,6,7,8,9,10] [11,12,13,14,15,16,17,18,19,20,21] [22,23] 0 (λw'=>w'=W2) rfl (by kernel_rfl) (λ_ _ h=>h) (λ_ _ _ _ h=>h.elim) ?_ _ rfl;intro os bW;simp only[jQ,jR,jT,jS]at bW;subst bW
      change wpQuiet _ _ _ _ [_,_,_,_,_,_,_,_,_,_,_] _
      repeat (go_big_quiet_step (fail))
      refine wpQuiet_nil ?_;rintro w' hw' r' bV;replace hw':W2=w':=Eq.symm hw';subst hw';simp only[jQ,jR,jT,jS]at bV;subst bV
      change wpList _ _ _ [_,_] _ _
      go_wp2_with fail
      refine tG.mono ?_;rintro r3 W3 ⟨jC,bb,rfl,cN,lW⟩;have nK:=aA (mI.out.trans lW);have HF:zd (bb=true↔iA (bs.getD k .zero) t a e cl):=by
       show _↔_;rw[cN,XQ,hex];have h1:=zV (u:=t.data.toList) (i:=a) (n:=e-a) (by simp;omega) (p:=kG ps k) (a:=0) (b:=e-a) (aj _);rw[uf,show a+(e-a)=e from by omega]at h1;rw[h1,Oe.out k hlt];exact⟨λh=>⟨Hpt.out,h⟩,λh=>h.2⟩
      clear tG cN lW k2 k3;go_wp2;rw[su];refine⟨by kernel_rfl,?_⟩;rw[vl];go_wp2
      go_meet
      exact⟨jC,bb,rfl,nK,HF⟩
   case rest=>
    obtain⟨nN,bb,rfl,Ah,Y7⟩:=hcut;cases bb with
    |false=>
     have RW:zd (∀j,j<k+1->¬iA (bs.getD j .zero) t a e cl):=λj hj=>by
      by_cases ej:j=k
      ·subst ej;rw[<-Y7.out];simp
      ·exact sR.out j (by omega)
     have J0:=aA (oN.out.trans Ah.out);clear Ah sY Av oN;go_wp2
     go_roundw
     case rel=>exact⟨k+1,nN,by go_num,by omega,J0,RW⟩
     case measure=>simp[intOf];omega
    |true=>
     have dK:=Y7.out.1 rfl;obtain⟨y2,y3,hy⟩:=Oa.out wc nN Ah.out.inv;have hno:=zhU pl G _ y2 y3 wc hy hG;have UM:Lg t.data.toList (kG ps k) a e:=(Oe.out k hlt).2 dK.2;have J0:=aA Ah.out.inv;have Zm:=aA (oN.out.trans Ah.out);clear oN
     go_wp2_with fail
     refine hno.mono ?_;rintro x5 W5 ⟨gs,rfl,iJ,mq,bD⟩;have jn:pv (List.replicate (G+1) ((-1:Int),(-1:Int)))=pv (List.replicate (G+1) (-1,-1)):=rfl;obtain⟨o1,q1⟩:=mq.stored (0*2) (za .i64 a);obtain⟨o2,q2⟩:=o1.stored (0*2+1) (za .i64 e);rw[YO _ _ _ _ (by simp)]at o2;have uQ:(List.replicate (G+1) ((-1:Int),(-1:Int))).set 0 ((a:Int),(e:Int))=gB ((a:Int),(e:Int)) G:=by simp[gB,List.replicate_succ]
     rw[uQ]at o2;simp only[Nat.zero_mul,jw]at o1 o2 q1 q2;obtain⟨u0,u1,s0,s1,Tx,fz1⟩:=DG mq (k:=0) (by omega);simp only[Nat.zero_mul,jw]at s0 s1 Tx fz1;obtain⟨W6,lE⟩:∃W6,(W5.setCell ⟨gs,0,zb⟩ (za .i64 a)).setCell ⟨gs,1,zb⟩ (za .i64 e)=W6:=⟨_,rfl⟩;rw[lE]at o2 q2;have vh:ap (· = gs) W5 W6:=((ap.refl _ W5).grown q1 (λk e=>.inl (Option.some.inj e).symm)).grown q2 (λk e=>.inl (Option.some.inj e).symm);have hI5:=J0.out.below bD;have rQ:∀b,¬nN gs b:=λb ho=>by have:=(J0.out.ow gs b ho).2;omega
     have uV:=J0.out.size;have zxH:∃ax,W5.heap[gs]?=zc (zh ax 71 (0,0)):=(dy mq (by simp[Value.ownBlock])).2;have VQ:bJ W5 W6:=λmg f e=>(vh.same mg (ah.1 e).1 (λe2=>by
      have e2:mg=gs:=e2;obtain⟨ax,h5⟩:=zxH;rw[e2,h5]at e;exact absurd (bL e) (by decide))).trans e
     have hI6:=hI5.free vh VQ (λk e=>by have e:k=gs:=e;subst e;exact⟨by omega,rQ⟩);have ZP:=aA VQ;have oh:W6.ownsRow w0.heap.size 71 2 (zf (zc ⟨gs,0,zb⟩) (G+1) (G+1)) (G+1) (pv (gB ((a:Int),(e:Int)) G)):=ny o2 uV;have jz:=aA hI6;have ZN:zd (∀j,j<W5.heap.size->j≠gs->W6.heap[j]?=W5.heap[j]?):=λj h1 h2=>vh.same j h1 h2
     have Sw:=aA oh;have Ux:gs<W6.heap.size:=(Gd oh).2.2.1;have zAe:=vh.size;have zBI:=bD.size;have hG1:(G:Int)+1=((G+1:Nat):Int):=by omega
     obtain⟨m,Hm⟩:∃m,zd (G+1=m):=⟨_,rfl⟩;have eQ:(0:Int)<(m:Int):=by have:=Hm.out;omega
     rw[Hm.out]at Sw ⊢;clear hno mq o1 o2 q1 q2 vh hI5 hI6 oh zxH hy jn uQ VQ;obtain⟨gp,cp,VA,-,-⟩:=Ao.out W6 nN jz.out k hlt;have VD:∀s:dB W6,s.W.cell? ⟨pl,2,zb⟩=zc (zf (zc ⟨gp,0,zb⟩) bs.length cp)/\s.W.cell? ⟨gp,k,zb⟩=zc (zl (zc ⟨qV ps k,0,zb⟩)):=λs=>by
      obtain⟨gp',cp',hv',k2,k3⟩:=Ao.out s.W nN (jz.out.below s.h) k hlt;rw[VA]at hv';injection hv' with e1 e2 e3
      injection e1 with e1
      injection e1 with e1
      subst e1;subst e3;exact⟨k2,k3⟩
     have x1:∀s:dB W6,s.W.cell? ⟨pl,2,zb⟩=zc (zf (zc ⟨gp,0,zb⟩) bs.length cp):=λs=>(VD s).1
     have x2:∀s:dB W6,s.W.cell? ⟨gp,k,zb⟩=zc (zl (zc ⟨qV ps k,0,zb⟩)):=λs=>(VD s).2
     clear VD VA;have rW:qV ps k=qV ps k:=rfl
     go_upto_region 7 with fail
     clear lE s0 s1 Tx fz1;have fP:prog.follows .mixedOrders=true:=by kernel_rfl
     refine MZ [0,1,3,4,5,6,7,8,9,10,11] [2,12] 12 (λw'=>∃s:dB W6,w'=s.W) fP ⟨⟨W6.drew,(Below.refl _ _).drew⟩,rfl⟩ (by kernel_rfl) ?_;intro os bW;simp only[jQ,jR,jT,jS]at bW;subst bW
     change wpQuiet _ _ _ _ [_,_,_,_,_,_,_,_,_,_,_] _
     repeat (go_big_quiet_step (fail))
     refine wpQuiet_nil ?_;rintro w' ⟨⟨Wb,eX⟩,hw'⟩ r' bV;replace hw':w'=Wb:=hw';subst w';simp only[jQ,jR,jT,jS,D7]at bV;subst bV;clear x1 x2 rW;refine qj rfl (λK5 fX=>?_);refine DL 131 #[.tmp 55,.tmp 56] #[9,33] (by rfl) #[.string t,zf (zc ⟨gs,0,zb⟩) m m] (by simp[Act.eval]) (λv w'=>∃bs bt bp,v=Dq bs bt bp/\zk Wb.heap.size Wb w'/\Wb.heap.size<=bs/\Wb.heap.size<=bt/\Wb.heap.size<=bp/\w'.heap[bs]?=zc (zh #[zf (zc ⟨gs,0,zb⟩) m m] 33 (0,0))/\w'.heap[bt]?=zc (zh #[.string t] 9 (0,0))/\w'.heap[bp]?=zc (zh #[Dq bs bt bp] 205 (0,0))) (zk1 _ _) ((zpU t gs m m Wb).mono (by
      rintro e w1 ⟨bs1,bt1,bp1,rfl,h1⟩;exact⟨_,rfl,bs1,bt1,bp1,rfl,h1⟩)) ?_
     rintro v8 W8 ⟨b1,b2,b3,rfl,eY,l1,l2,l3,z1,z2,z3⟩;have EQ:zk W6.heap.size W6 W8:=aq eX eX.size eY;refine fX _ _ (λ_=>⟨⟨W8,EQ⟩,rfl⟩) ?_;clear fX K5;have zBJ:=eX.size;have Uq:∀b',W6.heap.size<=b'->w0.heap.size<=b'/\∀q,¬nN b' q:=λb' C5=>⟨by omega,λq ho=>by have:=(jz.out.ow b' q ho).2;omega⟩
     have O7:oW w0 pl Q b1 b2 b3 gs m m t nN W8 (gB ((a:Int),(e:Int)) G):=⟨jz.out.below EQ,z1,z2,z3,dQ Sw.out EQ,by rw[DD];exact Hm.out,Uq b1 (by omega),Uq b2 (by omega),Uq b3 (by omega),⟨by omega,rQ⟩⟩;have zD:=zrP (lo:=wB.heap.size) ht (kG ps k) W8 nN _ (qV ps k) a e O7 (Kc.out k hlt) UM (λl hl x hx=>by
      have:=Sk.out k hlt l ((HE.out k hlt).pl _ _ _ _ UM hl) x hx;rw[Hm.out]at this;exact this)
     refine qj rfl (λK6 xu=>?_);refine zrI (.tmp 57) #[.tmp 64,.tmp 65,.tmp 66] #[198,3,3] (by rfl) 150 #[zl (zc ⟨b1,0,zb⟩),zl (zc ⟨b2,0,zb⟩),zl (zc ⟨b3,0,zb⟩)] (by simp[Act.eval,Act.put];rfl) #[zl (zc ⟨qV ps k,0,zb⟩),za .i64 a,za .i64 e,zl (zc ⟨b1,0,zb⟩),zl (zc ⟨b2,0,zb⟩),zl (zc ⟨b3,0,zb⟩)] (by simp[Act.eval,Act.put]) (λv w'=>SP w0 pl Q b1 b2 b3 gs m m t nN W8 (gB ((a:Int),(e:Int)) G) (kG ps k) a e (.returned v) w') (znd _ _) (zD.mono (by
      rintro e w1 ⟨SM,l,rfl,h1⟩;exact⟨_,rfl,SM,l,rfl,h1⟩)) ?_
     rintro v9 W9 ⟨SM,l,Vz,PG,O4,O9⟩;injection Vz with Vz
     subst Vz;refine xu _ _ (λh=>by simp at h) ?_;clear xu K6;have HF:zd (RD w0 pl Q qz WI G bs t a e cl (.returned (zf (zc ⟨gs,0,zb⟩) m m)) W9):=by
      have hsI:=Zm.out.size;refine⟨gQ (gB ((a:Int),(e:Int)) G) l,_,SM,.inr ⟨k,hlt,sR.out,dK,l,(HE.out k hlt).pl _ _ _ _ UM PG,rfl⟩,rfl,?_,Zm.out.trans ⟨O4.inv,by have:=O9.size;have:=EQ.size;omega,λj h1 h2 h3=>?_,((bJ.of bD).trans (ZP.out.trans (.of EQ))).trans O9.km⟩,λj b hj=>?_⟩
      ·rw[Gm,DD,Hm.out];exact zt3 O4.row (by omega)
      ·obtain⟨e2,f2⟩:=O9.eG j h1 (by have:=EQ.size;omega) (by omega) h3;exact⟨e2.trans ((EQ.block j (by omega)).trans ((ZN.out j (by omega) (by omega)).trans (bD.block j h2))),f2⟩
      ·have hj:gs=j:=by simpa [Value.ownBlock]using hj
       subst hj;exact O4.fg.2 b
     clear zD O7 PG O4 jz Sw O9 ZN ZP;show wT _ .normal _ _;rw[vl];go_wp2;go_ret;exact HF.out
  ·obtain rfl:k=bs.length:=by omega
   have hd:decide ((bs.length:Int)<(bs.length:Int))=false:=by simp
   have HF:zd (RD w0 pl Q qz WI G bs t a e cl (.returned (zf (zc ⟨wr.heap.size,0,zb⟩) 0 0)) (wr.alloc (zh #[] 71))):=⟨[],_,Ow,.inl ⟨sR.out,rfl⟩,rfl,DC wr _ 2 WI.heap.size wr.heap.size oN.out.size rfl,oN.out.below (aw),λj b hj ho=>by
    have hj:wr.heap.size=j:=by simpa [Value.ownBlock]using hj
    have:=(oN.out.inv.ow j b ho).2;omega⟩
   clear HI sR oN;go_wp2;go_ret;exact HF.out
end
section
variable {r:bi}{a:Int}
theorem oQ.start{t:ByteArray}{b:Nat}{cl:Bool}(fE:iK r=true)(ht:t.size<=4096)(hb:b<=t.size)(h:oQ r.branches t b cl r.branches.length a):DT r t b cl a:=by
 have key:∀k:Nat,k<=b->(sE r.di r.branches t k b cl↔∃j,j<r.branches.length/\iA (r.branches.getD j .zero) t k b cl):=λk hk=>by
  unfold sE;have h1:nD r.di r.branches t k b=true:=by
   unfold nD;rw[show gC r.di r.branches=true from fE];simp;omega
  rw[h1];simp
 rcases h with ⟨h1,h2⟩|⟨k,h1,h2,h3,h4⟩
 ·refine .inl ⟨h1,λk hk hs=>?_⟩;obtain⟨j,hj,hb⟩:=(key k hk).1 hs;exact h2 k hk j hj hb
 ·refine .inr ⟨k,h1,h2,(key k h2).2 h3,λj hj hs=>?_⟩;obtain⟨j',hj',hb⟩:=(key j (by omega)).1 hs;exact h4 j hj j' hj' hb
theorem zot{G:Nat}(hG:r.di=G)(fE:iK r=true){t:ByteArray}(ht:t.size<=4096){a b:Nat}(zi:a<=b)(hb:b<=t.size){cl:Bool}{sp:List (Int×Int)}(h:Y0 G r.branches t a b cl sp):Cc r.di r.branches t a b cl sp:=by
 have Vn:nD r.di r.branches t a b=true:=by
  unfold nD;rw[show gC r.di r.branches=true from fE];simp;omega
 have ea:(a:Int).toNat=a:=by omega
 have ee:(b:Int).toNat=b:=by omega
 rcases h with ⟨h1,h2⟩|⟨k,h1,h2,h3,l,h4,h5⟩
 ·refine .inl ⟨λhp=>?_,h2⟩;obtain⟨_,k,hk,hb⟩:=hp;rw[ea,ee]at hb;exact h1 k hk hb
 ·refine .inr ⟨Vn,k,h1,?_,?_,l,?_,?_⟩
  ·rw[ea,ee];exact h2
  ·rw[ea,ee];exact h3
  ·rw[ea,ee];exact h4
  ·rw[h5,hG,show (G:Int).toNat=G from by omega]
theorem ztQ(fE:iK r=true){G:Nat}(hG:r.di=G){t:ByteArray}(ht:t.size<=4096){a e:Nat}(Il:a<=e)(Iu:e<=t.size):∀k,k<r.branches.length->∀l,Pl t.data.toList (a8 (r.branches.getD k .zero).nodes ((r.branches.getD k .zero).nodes.length-1)) a e l->∀x∈l,1<=x.1/\x.1<((G+1:Nat):Int):=λk hk l hl x hx=>by
 have Vn:nD r.di r.branches t a e=true:=by
  unfold nD;rw[show gC r.di r.branches=true from fE];simp;omega
 obtain⟨s1,s2⟩:=zmK Vn hk;obtain⟨p1,p2⟩:=Qz _ s1;have fQ:=(Yp (r.branches.getD k .zero).nodes p2 s2 ((r.branches.getD k .zero).nodes.length-1) (by omega)).2;have h1:=DI _ _ _ _ hl x hx;have h3:=zg5 (show gC r.di r.branches=true from fE) _ (Xp r.branches k hk _ (fQ _ h1));omega
theorem zos(i a b:Int):prog.built 35 [(0,za .i64 1),(1,za .i64 i),(2,za .i64 a),(3,za .i64 b)]=zc #[za .i64 1,za .i64 i,za .i64 a,za .i64 b,zf zb 0 0]:=by kernel_rfl
def BD(X:ze)(g2 g:Nat)(i a b:Int)(v:zj):ze:=(((((X.setCell ⟨g2,4,zb⟩ v).setCell ⟨g,0,zb⟩ (za .i64 1)).setCell ⟨g,1,zb⟩ (za .i64 i)).setCell ⟨g,2,zb⟩ (za .i64 a)).setCell ⟨g,3,zb⟩ (za .i64 b)).setCell ⟨g,4,zb⟩ v
theorem zms{X:ze}{g2 g:Nat}{i b:Int}{v:zj}{k:Nat}(h1:k≠g2)(h2:k≠g):(BD X g2 g i a b v).heap[k]?=X.heap[k]?:=by
 unfold BD;rw[cH _ _ _ _ h2,cH _ _ _ _ h2,cH _ _ _ _ h2,cH _ _ _ _ h2,cH _ _ _ _ h2,cH _ _ _ _ h1]
theorem ap.put{S:Nat->Prop}{w A:ze}(h:ap S w A){b o:Nat}{v:zj}(hb:S b\/w.heap.size<=b):ap S w (A.setCell ⟨b,o,zb⟩ v):=h.grown (iZ A b o v) (λk e=>by cases e;exact hb)
end
section
variable {c:rk}{ao:Option Addr}
def MtB(c:rk)(Z:Nat->Nat->Prop)(W:ze)(r:bi)(t:ByteArray)(cl:Bool)(i:Int)(b:Nat)(e:Ending)(W':ze):Prop:=
 ∃(a:Int) (sp:List (Int×Int)) (v:zj) (P':Nat->Option Nat) (Z':Nat->Nat->Prop),DT r t b cl a/\DR r t a b cl sp/\e=.returned (zm #[za .i64 1,za .i64 i,za .i64 a,za .i64 b,v])/\W'.ownsRow W.heap.size 71 2 v sp.length (pv sp)/\dI c P' Z' W'/\ap (λk=>k=c.gq\/∃j,Z j k) W W'/\(∀j k,Z' j k->Z j k\/W.heap.size<=k)/\∀j k,v.ownBlock=zc k->¬Z' j k
theorem zhS{Z Z':Nat->Nat->Prop}{P':Nat->Option Nat}{W X:ze}{r:bi}{B:ByteArray}{cl:Bool}{i a:Int}{b g2 lo:Nat}{m cc:Nat}{sp:List (Int×Int)}(hF:dI c P' Z' X)(tX:ap (λk=>k=c.gq\/(∃j,Z j k)\/W.heap.size<=k) W X)(hst:DT r B b cl a)(hsp:DR r B a b cl sp)(ho:X.ownsRow lo 71 2 (.slice ao m cc) sp.length (pv sp))(h1:W.heap.size<=g2)(h2:g2<lo)(h3:W.heap.size<lo)(hw:c.WF.heap.size<=W.heap.size)
  (hz:∀j k,Z' j k->Z j k\/W.heap.size<=k) (rT:∀j,¬Z' j g2) (wh:∀j,¬Z' j W.heap.size) (hv:∀j k,(Value.slice ao m cc).ownBlock=zc k->¬Z' j k) {c1 c2:Array zj} (y1:X.heap[g2]?=zc (zh c1 35 (0,0))) (y2:X.heap[W.heap.size]?=zc (zh c2 35 (0,0))):
  MtB c Z W r B cl i b (.returned (zm #[za .i64 1,za .i64 i,za .i64 a,za .i64 b,.slice ao m cc])) (BD X g2 W.heap.size i a b (.slice ao m cc)):=by
 have zB:(BD X g2 W.heap.size i a b (.slice ao m cc)).ownsRow lo 71 2 (.slice ao m cc) sp.length (pv sp):=gR ho λk e=>by
  have:=(dy ho e).1;exact zms (by omega) (by omega)
 have put:∀{S:Nat->Prop} {U:ze},ap S U X->S g2\/U.heap.size<=g2->S W.heap.size\/U.heap.size<=W.heap.size->ap S U (BD X g2 W.heap.size i a b (.slice ao m cc)):=λt p q=>by
  unfold BD;exact(((((t.put p).put q).put q).put q).put q).put q
 have km:bJ X (BD X g2 W.heap.size i a b (.slice ao m cc)):=λmg f e=>(zms (λq=>by
  rw[q,y1]at e;exact absurd (bL e) (by decide)) (λq=>by
  rw[q,y2]at e;exact absurd (bL e) (by decide))).trans e
 refine⟨a,sp,.slice ao m cc,P',Z',hst,hsp,rfl,ny zB (by omega),hF.other (put (ap.refl (λk=>k=g2\/k=W.heap.size) X) (.inl (.inl rfl)) (.inl (.inr rfl))) km (λk hk=>?_),(put tX (.inr h1) (.inr (aj _))).mono (λk hk e=>?_),hz,hv⟩
 ·rcases hk with rfl|rfl
  ·exact⟨.inr (by omega),rT⟩
  ·exact⟨.inr hw,wh⟩
 ·rcases e with e|e|e
  ·exact .inl e
  ·exact .inr e
  ·omega
theorem zrw{rc:Nat}(wu:c.rv=.slice ao c.rs.length rc){P:Nat->Option Nat}{Z:Nat->Nat->Prop}{W:ze}(hF:dI c P Z W)(hr:fU c.lo c.w (.slice ao c.rs.length rc) c.rs)(bf gs i:Nat)(o9:c.bf=bf)(zwO:c.gs=gs)(jm:i<c.rs.length)(L:Int)(B:ByteArray)(cl:Bool)(q:Int)(b:Nat)(r:bi)(dx:c.rs.getD i .zero=r)(G:Nat)(hG:r.di=G)(fE:iK r=true)(hB:B.size<=4096)(hb:b<=B.size)(hlen:r.branches.length<=100000)
  (iJ:W.heap[gs]?=zc (zh (eI L B cl q b) 32 (0,0))):
  zn prog 74 #[zl (zc ⟨bf,0,zb⟩),zl (zc ⟨gs,0,zb⟩),za .i64 i] W λe W'=>MtB c Z W r B cl i b e W':=by
 obtain⟨W0,ai⟩:∃W0,W.alloc (zh #[za .i64 0,za .i64 0,za .i64 0,za .i64 0,zf zb 0 0] 35)=W0:=⟨_,rfl⟩;have vU:zk W.heap.size W W0:=by rw[<-ai];exact aw
 have xW:W0.heap[W.heap.size]?=zc (zh #[za .i64 0,za .i64 0,za .i64 0,za .i64 0,zf zb 0 0] 35 (0,0)):=by rw[<-ai];exact aI _ _
 have zA1:W0.heap.size=W.heap.size+1:=by rw[<-ai];simp
 have Ve:=zpV wu (hF.below vU) hr jm (by rw[dx];exact hlen);rw[o9]at Ve;have fD:=(ah.1 iJ).1;have fP:prog.follows .mixedOrders=true:=by kernel_rfl
 have R7:zd (c.WF.heap.size<=W.heap.size):=hF.tc.size;have Ar:zd (gs≠c.gq):=by rw[<-zwO];exact hF.ne
 have zyp:zd (gs<c.WF.heap.size):=by rw[<-zwO];exact hF.EI
 have Hq0:zd (c.gq<c.WF.heap.size):=hF.EH;have HZ:zd (∀j k,Z j k->c.WF.heap.size<=k/\k<W.heap.size):=hF.nF;have N9:=ay vU;have SF:=ay xW;have Sl:=ay iJ;clear hF vU xW iJ
 go_enter func74,ntmps74
 go_wp2_with fail
 refine Ve.mono ?_;rintro e W1 ⟨pl,P1,Z1,rfl,TN,EL,vg,aO⟩;obtain⟨bao,bcp,hs,wB,w0,Q,vP,ps,Ow,hS⟩:=EL.I7 i pl TN;rw[dx]at hs hS;have s1:=vg.size;have GN:zd (∀j k,Z1 j k->Z j k\/W.heap.size<k):=λj k hz=>(aO j k hz).imp id (λe=>by omega)
 have gD:zd (∀X,ap (λk=>Z1 i k\/W1.heap.size<=k) W1 X->X.heap[gs]?=zc (zh (eI L B cl q b) 32 (0,0))/\X.heap[W.heap.size]?=zc (zh #[za .i64 0,za .i64 0,za .i64 0,za .i64 0,zf zb 0 0] 35 (0,0))):=λX hX=>by
  have jZ:=R7.out;have h2:=zyp.out;have h4:=Hq0.out;refine⟨(hX.same gs (by omega) (λe=>?_)).trans ((vg.same gs (by omega) Ar.out).trans ((N9.out.block gs fD).trans Sl.out)),(hX.same W.heap.size (by omega) (λe=>?_)).trans ((vg.same _ (by omega) (by show ¬W.heap.size=c.gq;omega)).trans SF.out)⟩
  ·rcases e with e|e
   ·have:=(EL.nF i gs e).1;omega
   ·omega
  ·rcases e with e|e
   ·rcases GN.out i _ e with h|h
    ·have:=(HZ.out i _ h).2;omega
    ·omega
   ·omega
 have vE:zd (∀X,ap (λk=>Z1 i k\/W1.heap.size<=k) W1 X->ap (λk=>k=c.gq\/(∃j,Z j k)\/W.heap.size<=k) W X):=λX hX=>(((ap.bR N9.out).trans (vg.mono λk _ e=>.inl e))).trans (hX.mono λk _ e=>.inr (by
  rcases e with e|e
  ·exact(GN.out i k e).imp (λh=>⟨i,h⟩) (λh=>by omega)
  ·exact .inr (by omega)))
 have Fg:=fE;have OZ:G<=500:=by
  unfold iK gC at Fg;simp only[de,lx]at Fg;omega
 have t1:=ap.refl (λk=>Z1 i k\/W1.heap.size<=k) W1;obtain⟨c0,c1,c2,c3,c4⟩:=ja (gD.out W1 t1).1;have PI:=λnq:Nat=>ziH c.w wB hS.bu r.branches bao bcp hs hlen (za .i64 r.di) pl Q vP ps w0 hS.np hS.len B hB b hb cl hS.eq _ (W1.drewN nq) (hS.inv.below (below_drewN (Below.refl _ _) nq))
 have vA:=ay EL;have HS:=ay hS;have Hs:=ay hs;have xg:=ay TN;have Hw0:zd (w0.heap.size<=W1.heap.size):=hS.inv.size;clear Ve EL hS hs Fg ai TN t1 aO
 go_upto_region 3 with fail
 refine yj 10 (λw'=>∃nq,w'=W1.drewN nq) fP ⟨1,rfl⟩ (by decide) (by kernel_rfl) ?_;intro os bW;simp only[nH,ue]at bW;subst bW
 repeat (go_big_quiet_step (fail))
 refine wpQuiet_nil ?_;rintro w' ⟨nq,rfl⟩ r' bV;simp only[wV,wW]at bV;subst bV
 go_wp2_with fail
 refine(PI nq).mono ?_;rintro x2 W2 ⟨a,nM,rfl,xv,lV⟩;have kR:=ay (xv.start fE hB hb);have OL:zk W1.heap.size W1 (W1.drewN nq):=below_drewN (Below.refl _ _) nq;obtain⟨Z2,hF2,nR,lg,aQ,-,-⟩:=(vA.out.below OL).turn xg.out (by rw[dx];exact Hs.out) (by rw[dx];exact HS.out.below OL) lV;rw[dx]at nR;have Ka:zd (∀j k,Z2 j k->Z1 j k\/W1.heap.size<=k):=aQ;have mI:zd (ap (λk=>Z1 i k\/W1.heap.size<=k) W1 W2):=(ap.bR OL).trans (lg.mono λk _ e=>.inl e);have Ae:=ay hF2;have eC:=ay nR;have PP:W1.heap.size<=W2.heap.size:=lg.size;clear PI xv lV c0 c1 c2 c3 c4 hF2 nR lg aQ OL;obtain⟨W3,eN⟩:∃W3,W2.alloc (zh #[za .i64 1,za .i64 i,za .i64 a,za .i64 b,zf zb 0 0] 35)=W3:=⟨_,rfl⟩;have aG:zk W2.heap.size W2 W3:=by rw[<-eN];exact aw
 have x3:W3.heap[W2.heap.size]?=zc (zh #[za .i64 1,za .i64 i,za .i64 a,za .i64 b,zf zb 0 0] 35 (0,0)):=by rw[<-eN];exact aI _ _
 have GI:=ay (Ae.out.below aG);have sW:=ay (eC.out.below aG);have nK:=ay (mI.out.trans (.bR aG));have Aj:=ay eN;have eV:=zos (i:Int) a (b:Int);have l9:=(ah.1 x3).1;clear eN
 go_upto_region 5 with fail
 rw[Aj.out];clear Aj eV;have wh:∀j,¬Z2 j W.heap.size:=λj hz=>by
  rcases Ka.out j _ hz with h|h
  ·rcases GN.out j _ h with h|h
   ·have:=(HZ.out j _ h).2;omega
   ·omega
  ·omega
 have Oy:zd (∀j k,Z2 j k->Z j k\/W.heap.size<=k):=λj k hz=>by
  rcases Ka.out j _ hz with h|h
  ·exact(GN.out j _ h).imp id (λe=>by omega)
  ·exact .inr (by omega)
 have Ok:=ay wh;have Cs:=ay kR.out;clear kR wh;rcases Cs.out with ⟨rfl,-⟩|⟨k,rfl,gH,-⟩
 ·obtain⟨⟨room,h1⟩,-⟩:=sW.out.np.cells sW.out.inv;rw[hG]at h1;have hno:=zhU pl G _ _ _ W3 h1 OZ;clear h1
  go_wp2_with fail
  refine hno.mono ?_;rintro x4 W4 ⟨g4,rfl,pb,lM,bE⟩;have TW:=nK.out.trans (.bR bE);have x4:=ck x3 bE;have q4:=cT _ _ 4 _ _ x4;have y4:=bX x4;have xw:=(gD.out W4 TW).2;have z4:=bX xw;have z5:∀o,W4.frozen? ⟨W.heap.size,o,zb⟩=false:=λo=>cT _ _ o _ _ xw
  have n1:W.heap.size≠W2.heap.size:=by omega
  have n2:W2.heap.size≠W.heap.size:=by omega
  have zx1:W4.ownsRow W3.heap.size 71 2 (zf (zc ⟨g4,0,zb⟩) (G+1) (G+1)) (gB ((-1:Int),(-1:Int)) G).length (pv (gB (-1,-1) G)):=by
   rw[DD];have e:gB ((-1:Int),(-1:Int)) G=List.replicate (G+1) (-1,-1):=by simp[gB,List.replicate_succ]
   rw[e];exact lM
  have HF:=ay (zhS (Z:=Z) (W:=W) (r:=r) (B:=B) (cl:=cl) (i:=(i:Int)) (b:=b) (GI.out.below bE) (vE.out W4 TW) Cs.out (.inl ⟨rfl,by rw[hG];rfl⟩) zx1 (g2:=W2.heap.size) (by omega) (by omega) (by omega) R7.out Oy.out (λj hz=>by have:=(Ae.out.nF j _ hz).2;omega) Ok.out (λj k e hz=>by
   have e:g4=k:=by simpa [Value.ownBlock]using e
   have:=(Ae.out.nF j _ hz).2;omega) x4 xw)
  unfold BD at HF;have hGi:((G:Int)+1)=((G+1:Nat):Int):=by omega
  clear hno lM zx1 vA Ae GI HS eC sW Hs x4 xw x3 Cs gD vE mI nK TW HZ GN Ka Oy Ok;go_wp2;exact bh (v:=zm #[za .i64 1,za .i64 i,za .i64 (-1),za .i64 b,zf (zc ⟨g4,0,zb⟩) (G+1) (G+1)]) (by simp[results,results74,go_sem,z4]) rfl HF.out
 ·have rO:=λnq:Nat=>zkU c.w wB sW.out.bu r.branches bao bcp Hs.out hlen G OZ pl Q vP ps w0 (hG ▸ sW.out.np) sW.out.len B hB k b gH hb cl sW.out.eq (ztQ fE hG hB gH hb) _ (W3.drewN nq) (sW.out.inv.below (below_drewN (Below.refl _ _) nq))
  have db:((k:Int) == -1)=false:=by simp
  obtain⟨c0,c1,c2,c3,c4⟩:=ja (gD.out W3 nK.out).1
  go_upto_region 7 with fail
  refine yj 11 (λw'=>∃nq,w'=W3.drewN nq) fP ⟨1,rfl⟩ (by decide) (by kernel_rfl) ?_;intro os bW;simp only[nH,ue]at bW;subst bW
  repeat (go_big_quiet_step (fail))
  refine wpQuiet_nil ?_;rintro w' ⟨nq,rfl⟩ r' bV;simp only[wV,wW]at bV;subst bV
  go_wp2_with fail
  refine(rO nq).mono ?_;rintro x5 W5 ⟨sp,v5,Ow5,hq5,rfl,mq,Ii,zwG⟩;obtain⟨so,sm,sc,rfl⟩:∃so sm sc,v5=.slice so sm sc:=by
   rcases mq.2 with ⟨e,_⟩|⟨g,c,_,e,_⟩
   ·exact⟨_,_,_,e⟩
   ·exact⟨_,_,_,e⟩
  have Tf:zk W3.heap.size W3 (W3.drewN nq):=below_drewN (Below.refl _ _) nq;obtain⟨Z5,hF5,hS5,tc5,Mt,zxQ,zxO⟩:=(GI.out.below Tf).turn xg.out (by rw[dx];exact Hs.out) (by rw[dx];exact sW.out.below Tf) Ii;have Bx:w0.heap.size<=W2.heap.size:=aW Hw0.out PP;have TX:ap (λk=>Z1 i k\/W1.heap.size<=k) W1 W5:=(nK.out.trans (.bR Tf)).trans (tc5.mono λk _ e=>(Ka.out i k e));have zzC:∀b,¬Ow5 W2.heap.size b:=(Ii.eG W2.heap.size Bx l9 (λb ho=>by have:=(eC.out.inv.ow _ b ho).2;omega)).2;have x5:=(Ii.eG W2.heap.size Bx l9 (λb ho=>by have:=(eC.out.inv.ow _ b ho).2;omega)).1.trans x3;have q4:=cT _ _ 4 _ _ x5;have y4:=bX x5;have xw:=(gD.out W5 TX).2;have z4:=bX xw;have z5:∀o,W5.frozen? ⟨W.heap.size,o,zb⟩=false:=λo=>cT _ _ o _ _ xw
  have n1:W.heap.size≠W2.heap.size:=by omega
  have n2:W2.heap.size≠W.heap.size:=by omega
  have Wa:W5.ownsRow W3.heap.size 71 2 (.slice so sm sc) sp.length (pv sp):=mq;have nZ:∀x,W2.heap.size<=x->(∀b,¬Ow5 x b)->∀j,¬Z5 j x:=λx hx ho j hz=>by
   by_cases e:j=i
   ·subst e;rcases(zxO x).1 hz with h|⟨b,h⟩
    ·omega
    ·exact ho b h
   ·have:=(Ae.out.nF j x (zxQ j x e hz)).2;omega
  have HF:=ay (zhS (Z:=Z) (W:=W) (r:=r) (B:=B) (cl:=cl) (i:=(i:Int)) (b:=b) hF5 (vE.out W5 TX) Cs.out (.inr ⟨by omega,zot hG fE hB gH hb hq5⟩) Wa (g2:=W2.heap.size) (by omega) (by omega) (by omega) R7.out (λj k hz=>by
   rcases Mt j k hz with h|h
   ·exact Oy.out j k h
   ·exact .inr (by have:W3.heap.size<=k:=h;omega)) (nZ _ (aj _) zzC) (λj hz=>by
   rcases Mt j _ hz with h|h
   ·exact Ok.out j h
   ·have:W3.heap.size<=W.heap.size:=h;omega) (λj k e=>nZ k (by have:=(dy Wa e).1;omega) (λb=>zwG k b e) j) x5 xw)
  unfold BD at HF;clear rO mq Wa vA Ae GI HS eC sW Hs x5 xw x3 Cs gD vE c0 c1 c2 c3 c4 Ii TX zwG hq5 hF5 hS5 tc5 Mt zxQ zxO nZ mI nK HZ GN Ka Oy Ok;go_wp2;exact bh (v:=zm #[za .i64 1,za .i64 i,za .i64 k,za .i64 b,.slice so sm sc]) (by simp[results,results74,go_sem,z4]) rfl HF.out
end
def Rx(g:Nat)(w:ze):Nat:=match w.cell? ⟨g,4,zb⟩with
 |some (.int _ i)=>i.toNat
 |_=>0
theorem zmH{g:Nat}{w:ze}{L:Int}{B:ByteArray}{C:Bool}{S N:Int}(h:w.heap[g]?=zc (zh (eI L B C S N) 32 (0,0))):Rx g w=N.toNat:=by
 have:w.cell? ⟨g,4,zb⟩=zc (za .i64 N):=bX h 4;unfold Rx;rw[this]
section
variable {w W W':ze} {rv cv bv fv tv ev nv kv:zj} {wd:Int} {rs:List bi} {bf g cap gq:Nat} {vs:List zj}
theorem Cf.below(h:Cf w rv cv bv fv tv ev nv kv wd rs bf g cap gq vs W)(hb:zk W.heap.size W W'):Cf w rv cv bv fv tv ev nv kv wd rs bf g cap gq vs W':=
 ⟨aq h.bu h.bu.size hb,h.zv3,h.OR,ck h.box hb,dQ h.own hb,h.MO.below hb,ck h.qs hb⟩
end
def oq(X:ze)(g:Nat)(a b c d:Int)(v:zj):ze:=((((X.setCell ⟨g,0,zb⟩ (za .i64 a)).setCell ⟨g,1,zb⟩ (za .i64 b)).setCell ⟨g,2,zb⟩ (za .i64 c)).setCell ⟨g,3,zb⟩ (za .i64 d)).setCell ⟨g,4,zb⟩ v
theorem JB{X:ze}{g:Nat}{a b c d:Int}{v:zj}{k:Nat}(h:k≠g):(oq X g a b c d v).heap[k]?=X.heap[k]?:=by
 unfold oq;rw[cH _ _ _ _ h,cH _ _ _ _ h,cH _ _ _ _ h,cH _ _ _ _ h,cH _ _ _ _ h]
theorem Jl(i:Int):prog.built 35 [(0,za .i64 i)]=zc #[za .i64 i,za .i64 0,za .i64 0,za .i64 0,zf zb 0 0]:=by kernel_rfl
theorem zoT(xs:Array zj)(w:ze):(callFunc 76 xs).run prog w=.ok (.enter 76 xs) w:=by kernel_rfl
end Go.Proofs.YtdimhpfiieepiaaGreatDoor
