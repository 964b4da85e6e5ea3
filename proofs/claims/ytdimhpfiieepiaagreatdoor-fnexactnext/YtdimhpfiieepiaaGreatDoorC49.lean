import Derived.Test.YtdimhpfiieepiaaGreatDoorC48
namespace Go.Proofs.YtdimhpfiieepiaaGreatDoor
open Proofs.Tryz
open Value renaming int->za,slice->zc,agg->zg
open Option renaming none->zb,some->zd
open RowKit renaming Hid->ze,Below->zk
open Go renaming Value->zf,World->aa,TypeId->zl
open Obj renaming cells->ab
set_option maxHeartbeats 2000000
set_option maxRecDepth 100000
section
open Go.RowKit
attribute [local go_sem ↓] wp_at_zero wp_at_succ
theorem zkb{w:aa}{lo k n sz:Nat}{v:zf}{e:zl}{xs:List zf}(h:w.ownsRow lo e sz v n xs)(hk:v.ownBlock=zd k):lo<=k:=by
 rcases h.2 with ⟨h0,_⟩|⟨g',cap',aA,hv,h1,_⟩
 ·subst h0;simp[Value.ownBlock]at hk
 ·subst hv;have hk:g'=k:=by simpa [Value.ownBlock]using hk
  omega
def wX(r:bL)(t:ByteArray)(b:Nat)(cl:Bool)(k:Nat)(a:Int):Prop:=
 (a=-1/\∀j:Nat,k<=j->j<=b->¬sj r.dG r.branches t j b cl)\/∃j:Nat,a=j/\k<=j/\j<=b/\sj r.dG r.branches t j b cl/\∀i:Nat,k<=i->i<j->¬sj r.dG r.branches t i b cl
theorem wX.no{r:bL}{t:ByteArray}{b:Nat}{cl:Bool}{k:Nat}{a:Int}(h:wX r t b cl (k+1) a)(hn:¬sj r.dG r.branches t k b cl):wX r t b cl k a:=by
 rcases h with ⟨h1,h2⟩|⟨j,h1,h2,h3,h4,h5⟩
 ·refine .inl ⟨h1,λj hj hb=>?_⟩
  by_cases e:j=k
  ·subst e;exact hn
  ·exact h2 j (by omega) hb
 ·refine .inr ⟨j,h1,by omega,h3,h4,λi hi hj=>?_⟩
  by_cases e:i=k
  ·subst e;exact hn
  ·exact h5 i (by omega) hj
theorem wX.yes{r:bL}{t:ByteArray}{b:Nat}{cl:Bool}{k:Nat}(hk:k<=b)(hn:sj r.dG r.branches t k b cl):wX r t b cl k k:=
 .inr ⟨k,rfl,ai _,hk,hn,λi h1 h2=>by omega⟩
theorem wX.done{r:bL}{t:ByteArray}{b:Nat}{cl:Bool}{a:Int}(h:wX r t b cl 0 a):Dh r t b cl a:=by
 rcases h with ⟨h1,h2⟩|⟨j,h1,h2,h3,h4,h5⟩
 ·exact .inl ⟨h1,λk hk=>h2 k (aZ _) hk⟩
 ·exact .inr ⟨j,h1,h3,h4,λi hi=>h5 i (aZ _) hi⟩
theorem Mi{W:aa}{b1 b2 k:Nat}(h1:k≠b1)(h2:k≠b2)(v0 v1 v2 v3 v4 u0 u1 u2 u3 u4:zf):((((((((((W.setCell ⟨b1,0,zb⟩ v0).setCell ⟨b1,1,zb⟩ v1).setCell ⟨b1,2,zb⟩ v2).setCell ⟨b1,3,zb⟩ v3).setCell ⟨b1,4,zb⟩ v4).setCell ⟨b2,0,zb⟩ u0).setCell ⟨b2,1,zb⟩ u1).setCell ⟨b2,2,zb⟩ u2).setCell ⟨b2,3,zb⟩ u3).setCell ⟨b2,4,zb⟩ u4).heap[k]?=W.heap[k]?:=by
 rw[cu _ _ _ _ h2,cu _ _ _ _ h2,cu _ _ _ _ h2,cu _ _ _ _ h2,cu _ _ _ _ h2,cu _ _ _ _ h1,cu _ _ _ _ h1,cu _ _ _ _ h1,cu _ _ _ _ h1,cu _ _ _ _ h1]
theorem zmu{W:aa}{B sz n:Nat}{e:zl}{v:zf}{xs:List zf}(h:W.ownsRow B e sz v n xs):W.drew.ownsRow B e sz v n xs:=h
structure Fi(w:aa)(C0 C1:Array zf)(g9:Nat)(so:Option Addr)(m cap:Nat)(i sa b:Int)(sp:List (Int×Int))(W:aa):Prop where
 fo:Fo w 41 32 32 35 C0 C1 #[za .i64 0,.string ⟨#[]⟩,.bool false,za .i64 0,za .i64 0] #[za .i64 0,za .i64 0,za .i64 0,za .i64 0,zc zb 0 0] W
 bx:W.heap[g9]?=zd (ab #[za .i64 1,za .i64 i,za .i64 sa,za .i64 b,.slice so m cap] 35 (0,0))
 own:W.ownsRow (g9+1) 71 2 (.slice so m cap) sp.length (pv sp)
 lo:w.heap.size+3<g9
section
variable {w W W':aa} {C0 C1:Array zf} {g9 m cap:Nat} {so:Option Addr} {i sa b:Int} {sp:List (Int×Int)}
theorem Fi.call(h:Fi w C0 C1 g9 so m cap i sa b sp W)(hb:zk W.heap.size W W'):Fi w C0 C1 g9 so m cap i sa b sp W':=
 ⟨h.fo.call hb,cB h.bx hb,cI h.own hb,h.lo⟩
theorem Fo.zwM{t0 t1 t2 t3:zl}{C2 C3:Array zf}(h:Fo w t0 t1 t2 t3 C0 C1 C2 C3 W)(hl:w.heap.size+3<g9)(o:Nat)(u:zf):Fo w t0 t1 t2 t3 C0 C1 C2 C3 (W.setCell ⟨g9,o,zb⟩ u):=
 ⟨h.below.setCell (by show w.heap.size<=g9;omega) _,(cu _ _ _ _ (by show w.heap.size≠g9;omega)).trans h.r0,(cu _ _ _ _ (by show w.heap.size+1≠g9;omega)).trans h.r1,(cu _ _ _ _ (by show w.heap.size+2≠g9;omega)).trans h.r2,(cu _ _ _ _ (by show w.heap.size+3≠g9;omega)).trans h.r3⟩
theorem zmv{v:zf}{n:Nat}{xs:List zf}{e:zl}{sz:Nat}(h:W.ownsRow (g9+1) e sz v n xs)(o:Nat)(u:zf):(W.setCell ⟨g9,o,zb⟩ u).ownsRow (g9+1) e sz v n xs:=
 kH h λk e=>cu _ _ _ _ (by have:=zkb h e;show k≠g9;omega)
theorem Fi.put(h:Fi w C0 C1 g9 so m cap i sa b sp W)(UF:Int):Fi w C0 C1 g9 so m cap i UF b sp (W.setCell ⟨g9,2,zb⟩ (za .i64 UF)):=
 ⟨h.fo.zwM h.lo _ _,dF W g9 2 _ _ (za .i64 UF) h.bx,zmv h.own _ _,h.lo⟩
theorem Fi.row{OO:Option Addr}{m' cap':Nat}{OP:List (Int×Int)}(fo:Fo w 41 32 32 35 C0 C1 #[za .i64 0,.string ⟨#[]⟩,.bool false,za .i64 0,za .i64 0] #[za .i64 0,za .i64 0,za .i64 0,za .i64 0,zc zb 0 0] W)(bx:W.heap[g9]?=zd (ab #[za .i64 1,za .i64 i,za .i64 sa,za .i64 b,.slice so m cap] 35 (0,0)))(lo:w.heap.size+3<g9)(own:W.ownsRow (g9+1) 71 2 (.slice OO m' cap') OP.length (pv OP)):Fi w C0 C1 g9 OO m' cap' i sa b OP (W.setCell ⟨g9,4,zb⟩ (.slice OO m' cap')):=
 ⟨fo.zwM lo _ _,dF W g9 4 _ _ (.slice OO m' cap') bx,zmv own _ _,lo⟩
end
theorem zlI{lo:Nat}(ao:Option Addr)(rc:Nat)(cv bv fv tv ev nv kv:zf)(rs:List bL)(d:bG)(L:Int)(B:ByteArray)(C:Bool)(S:Int)(n:Nat)(w:aa)(hr:gZ lo w (.slice ao rs.length rc) rs)(hsm:qM rs)(hs:eN lo w cv bv fv tv ev nv kv d)(hB:qe rs d ⟨L,B,C,S,n⟩=true):
  Calls prog 7 #[zg #[.slice ao rs.length rc,cv,za .i64 d.width,bv,fv,tv,ev,nv,kv],zg #[za .i64 L,.string B,.bool C,za .i64 S,za .i64 n]] w λe w'=>∃s' x,oN rs d ⟨L,B,C,S,n⟩ s' x/\Jo w s' x e w':=by
 have F0:=Fo.new w 41 32 32 35 #[.slice ao rs.length rc,cv,za .i64 d.width,bv,fv,tv,ev,nv,kv] #[za .i64 L,.string B,.bool C,za .i64 S,za .i64 n] #[za .i64 0,.string ⟨#[]⟩,.bool false,za .i64 0,za .i64 0] #[za .i64 0,za .i64 0,za .i64 0,za .i64 0,zc zb 0 0];obtain⟨W0,ah⟩:∃W0,(((w.alloc (ab #[.slice ao rs.length rc,cv,za .i64 d.width,bv,fv,tv,ev,nv,kv] 41)).alloc (ab #[za .i64 L,.string B,.bool C,za .i64 S,za .i64 n] 32)).alloc (ab #[za .i64 0,.string ⟨#[]⟩,.bool false,za .i64 0,za .i64 0] 32)).alloc (ab #[za .i64 0,za .i64 0,za .i64 0,za .i64 0,zc zb 0 0] 35)=W0:=⟨_,rfl⟩;rw[ah]at F0;obtain⟨Km,hf,TU,SF,mO,Gr,RN,-,Kr,Cf,Cg⟩:=ER hB;dsimp only at mO Gr RN Kr Cf Cg;obtain⟨ba,bc,J2⟩:∃ba bc,bv=.slice ba d.base.length bc:=by obtain⟨ba,bc,h,_⟩:=hs.base;exact⟨ba,bc,h⟩
 subst J2;obtain⟨tao,tcp,htv,-,KM⟩:=hs.tag;subst htv;obtain⟨eao,Gj,hev,-,J7⟩:=hs.fin;subst hev;have oZ:=hf.n1;obtain⟨tb,EM,rfl,-,nh,KN⟩:=KM (by rw[hf.tl];omega);obtain⟨eb,eo,rfl,-,hel,kS⟩:=J7 (by rw[hf.el];omega);have c1:=zeu ao rc cv _ fv _ _ nv kv rs d W0 (hr.below F0.below) hsm (hs.below F0.below);have pM:rT rs d=true:=by simp only[qe,dE]at hB;exact hB.1.1
 have AU:nC ⟨L,B,C,S,n⟩=true:=by simp only[qe,dE]at hB;exact hB.1.2
 rw[pM]at c1;obtain⟨st,jY⟩:∃st:Nat->Nat,ze (∀b,((st b:Nat):Int)=qK d ⟨L,B,C,S,n⟩ b):=⟨λb=>(qK d ⟨L,B,C,S,n⟩ b).toNat,λb=>by have:=Ml hB b;dsimp only;omega⟩;obtain⟨nm,nI⟩:∃nm:Nat->Int,ze (∀b,nm b=qG d ⟨L,B,C,S,n⟩ b):=⟨_,λ_=>rfl⟩;have FZ:ze (∀b,st b<d.base.length):=λb=>by have:=Ml hB b;have:=jY.out b;omega
 have Jj:ze (∀b,b<=n->((st b:Nat):Int)=S):=λb h=>by
  rw[jY.out];unfold qK;dsimp only;rw[show b-(n:Int).toNat=0 from by omega];rfl
 have QN:ze (∀b,n<=b->∀h:b<B.size,((st (b+1):Nat):Int)=iQ d (st b) (B[b]'h).toNat):=λb h1 h2=>by
  rw[jY.out,zmG (s:=⟨L,B,C,S,n⟩) (by dsimp only;omega) (B[b]'h2).toNat (by dsimp only;simp[h2];rfl),<-jY.out]
  rfl
 have Je:ze (∀b,-1<=nm b/\nm b<rs.length):=λb=>by rw[nI.out];exact WN hB b
 have Hnt:ze (∀b,(C&&b==B.size)=false->nm b=d.tag.getD (st b) 0):=λb h=>by
  rw[nI.out];unfold qG;dsimp only;rw[h];simp only[Bool.false_eq_true,if_false];rw[<-jY.out];rfl
 have Hnf:ze (∀b,(C&&b==B.size)=true->nm b=d.fin.getD (st b) 0):=λb h=>by
  rw[nI.out];unfold qG;dsimp only;rw[h];simp only[if_true];rw[<-jY.out];rfl
 obtain⟨c0,Ac,yE,c3,f1,f2,f3⟩:=F0.cells;have Hr:=aY hr;have Hs:=aY hs;have Htq:=aY KN;have Heq:=aY kS;have QP:=aY hf.tl;have Hel:=aY hf.el;have Hf:=aY hf;have HB:=aY hB;have QG:=aY Km;clear hr hs KM J7 KN kS hf hB Km TU SF pM
 go_enter func7,ntmps7
 go_wp2_with fail
 refine c1.mono ?_;rintro e W1 ⟨rfl,ak⟩;have F1:=F0.call ak;clear c0 Ac yE c3 f1 f2 f3 ah c1 F0 ak;have c2:=zev ⟨L,B,C,S,n⟩ W1;rw[AU]at c2;dsimp only at c2;obtain⟨c0,c1,yE,c3,f1,f2,f3⟩:=F1.cells
 go_wp2_with fail
 refine c2.mono ?_;rintro e W2 ⟨rfl,af⟩;have F2:=F1.call af;clear c0 c1 yE c3 f1 f2 f3 c2 F1 af AU;have Dr:=aY F2;obtain⟨c0,c1,c2,c3,f1,f2,f3⟩:=F2.cells;have NG:decide (S>=(d.base.length:Int))=false:=decide_eq_false (by omega);clear F2;go_wp2;clear c0 c1 c2 c3 f1 f2 f3 NG
 go_loopw [6,7] (λqv Rr wr=>∃b:Nat,n<=b/\b<=B.size+1/\Rr=za .i64 b/\qv=za .i64 (st (b-1))/\ze (Fo w 41 32 32 35 #[.slice ao rs.length rc,cv,za .i64 d.width,.slice ba d.base.length bc,fv,zc (zd ⟨tb,EM,zb⟩) d.tag.length tcp,zc (zd ⟨eb,eo,zb⟩) d.fin.length Gj,nv,kv] #[za .i64 L,.string B,.bool C,za .i64 S,za .i64 n] #[za .i64 0,.string ⟨#[]⟩,.bool false,za .i64 0,za .i64 0] #[za .i64 0,za .i64 0,za .i64 0,za .i64 0,zc zb 0 0] wr)/\ze (∀j,n<=j->j<b->nm j=-1))
  (λ_ Rr _=>B.size+1-(intOf Rr).toNat)
 case atStart=>exact⟨n,ai _,by omega,rfl,by rw[Jj.out _ (by omega)],Dr,λj h1 h2=>by omega⟩
 case round=>
  clear Dr;obtain⟨b,pO,iY,rfl,rfl,HF,sF⟩:=hrel;obtain⟨V,hV⟩:∃V,V=wr:=⟨_,rfl⟩;subst hV;have fU:prog.follows .mixedOrders=true:=by kernel_rfl
  by_cases uD:b<=B.size
  ·have oV:decide ((b:Int)<=(B.size:Int))=true:=decide_eq_true (by omega);obtain⟨c0,c1,c2,c3,f1,f2,f3⟩:=HF.out.cells
   go_upto_region 7 with fail
   go_cut [44] from 41 to 44 (λv wx=>v=.bool (decide (n<b))/\wx=V)
   case first=>
    go_wp2
    go_meet
    exact⟨rfl,rfl⟩
   obtain⟨rfl,uJ⟩:=hcut;subst uJ
   rename_i K hK
   refine hK _ _ ?_;clear hK K;obtain⟨V,hV⟩:∃V,V=wc:=⟨_,rfl⟩;subst hV
   go_cut [6] from 44 to 54 (λv wx=>v=za .i64 (st b)/\ze (Fo w 41 32 32 35 #[.slice ao rs.length rc,cv,za .i64 d.width,.slice ba d.base.length bc,fv,zc (zd ⟨tb,EM,zb⟩) d.tag.length tcp,zc (zd ⟨eb,eo,zb⟩) d.fin.length Gj,nv,kv] #[za .i64 L,.string B,.bool C,za .i64 S,za .i64 n] #[za .i64 0,.string ⟨#[]⟩,.bool false,za .i64 0,za .i64 0] #[za .i64 0,za .i64 0,za .i64 0,za .i64 0,zc zb 0 0] wx))
   case first=>
    by_cases hbn:b=n
    ·have lz:decide (n<b)=false:=decide_eq_false (by omega);have e1:st (b-1)=st b:=by have:=Jj.out (b-1) (by omega);have:=Jj.out b (by omega);omega
     rw[e1];go_wp2
     go_meet
     exact⟨rfl,HF⟩
    ·have lz:decide (n<b)=true:=decide_eq_true (by omega);obtain⟨p,hp⟩:∃p,b-1=p:=⟨_,rfl⟩;have hpb:(b:Int)-1=(p:Int):=by omega
     have vS:p<B.size:=by omega
     have fD:(p:Int)<(B.size:Int):=by omega
     have ja:(0:Int)<=(p:Int):=by omega
     have vx:ze (((st b:Nat):Int)=iQ d (st p) (B[p]'vS).toNat):=by
      have:=QN.out p (by omega) vS;rw[show p+1=b from by omega]at this;exact this
     have hc:(B[p]'vS).toNat<256:=(B[p]'vS).toNat_lt;have hgo:=λnq:Nat=>zsO cv _ fv _ _ nv kv d (st p) (B[p]'vS).toNat (V.drewN nq) (Hs.out.below (below_drewN HF.out.below nq)) Hf.out (FZ.out p) hc
     rw[hp]
     go_upto_region 8 with fail
     refine xM 9 (λw'=>∃nq,w'=V.drewN nq) fU ⟨1,rfl⟩ (by decide) (by kernel_rfl) ?_;intro os ck;simp only[nE,tV]at ck;subst ck
     repeat (go_big_quiet_step (fail))
     refine wpQuiet_nil ?_;rintro w' ⟨nq,rfl⟩ r' bZ;simp only[wM,wN]at bZ;subst bZ
     go_wp2_with fail
     refine(hgo nq).mono ?_;rintro e W3 ⟨rfl,ay⟩;have HF3:=aY (HF.out.call ((below_drewN (Below.refl V.heap.size V) nq).trans ay));clear hgo c0 c1 c2 c3 f1 f2 f3;go_wp2
     go_meet
     exact⟨by rw[vx.out],HF3⟩
   case rest=>
    obtain⟨rfl,IQ⟩:=hcut;clear HF c0 c1 c2 c3 f1 f2 f3;have fT:=IQ.out.below;have dO:(0:Int)<=(st b:Int):=by omega
    have dh:(st b:Int)<(d.tag.length:Int):=by have:=FZ.out b;have:=QP.out;omega
    have th:(st b:Int)<(d.fin.length:Int):=by have:=FZ.out b;have:=Hel.out;omega
    have ct:wc.cell? ⟨tb,EM+st b,zb⟩=zd (za .i64 (d.tag.getD (st b) 0)):=(fT.cell (by exact nh)).trans (Htq.out (st b) (by omega));have ce:wc.cell? ⟨eb,eo+st b,zb⟩=zd (za .i64 (d.fin.getD (st b) 0)):=(fT.cell (by exact hel)).trans (Heq.out (st b) (by omega));obtain⟨c0,c1,c2,c3,f1,f2,f3⟩:=IQ.out.cells;obtain⟨V4,Sa⟩:∃V4,V4=wc:=⟨_,rfl⟩;subst Sa
    rename_i K hK
    refine hK _ _ ?_;clear hK K
    go_upto_region 10 with fail
    go_cut [69] from 61 to 69 (λv wx=>v=.bool (C&&b==B.size)/\wx=V4)
    case first=>
     have Hq:ze (((b:Int)==(B.size:Int))=(b==B.size)):=by
      show _=_
      by_cases h:b=B.size
      ·subst h;simp
      ·have:((b:Int)==(B.size:Int))=false:=by simp;omega
       rw[this];simp;omega
     cases C
     ·go_wp2
      go_meet
      exact⟨rfl,rfl⟩
     ·go_wp2
      go_meet
      exact⟨by first|rfl|(rw[Hq.out];rfl),rfl⟩
    obtain⟨rfl,uJ⟩:=hcut;subst uJ
    rename_i K hK
    refine hK _ _ ?_;clear hK K;obtain⟨V4,Sa⟩:∃V4,V4=wc:=⟨_,rfl⟩;subst Sa
    go_cut [8] from 69 to 75 (λv wx=>v=za .i64 (nm b)/\wx=V4)
    case first=>
     cases nR:(C&&b==B.size)
     ·have E1:=aY (Hnt.out b nR);go_wp2
      go_meet
      exact⟨by rw[E1.out,cL],rfl⟩
     ·have E1:=aY (Hnf.out b nR);go_wp2
      go_meet
      exact⟨by rw[E1.out,cL],rfl⟩
    case rest=>
     obtain⟨rfl,uJ⟩:=hcut;subst uJ
     rename_i K hK
     refine hK _ _ ?_;clear hK K;clear ct ce
     by_cases l9:nm b<0
     ·have AB:decide (nm b<0)=true:=decide_eq_true l9;have Qh:ze (∀j,n<=j->j<b+1->nm j=-1):=λj h1 h2=>by
       by_cases e:j=b
       ·subst e;have:=(Je.out j).1;omega
       ·exact sF.out j h1 (by omega)
      clear l9;go_wp2
      go_roundw
      case rel=>exact⟨b+1,by omega,by omega,by go_num,by rw[Dk],IQ,Qh⟩
      case measure=>simp[intOf];omega
     ·obtain⟨i,hi⟩:∃i:Nat,nm b=i:=⟨(nm b).toNat,by omega⟩;have lZ:i<rs.length:=by have:=(Je.out b).2;omega
      have Hi:=aY hi;rw[hi];clear hi l9;obtain⟨j7,zn,hv',Ol,yY⟩:=Hr.out;cases hv';obtain⟨rb,ro,rv,rd,rfl,gE,lF,k0,k1,CG⟩:=yY.elem fT lZ;obtain⟨jH,jI,rfl,yP,rI⟩:=CG;have uv:eh lo w (.slice jH rd.branches.length jI) rd.branches:=⟨jH,jI,rfl,yP,rI⟩;have TM:Small rd.branches:=by have:=hsm.2 i lZ;rw[gE.out]at this;exact this
      have eU:iM rd=true:=by
       have h1:=QG.out;simp only[li,dE]at h1;exact jl.1 h1.1.2 rd (by rw[<-gE.out];simp[List.getD,lZ])
      obtain⟨G,hG,Nz⟩:∃G:Nat,rd.dG=G/\G<=500:=by
       unfold iM gD at eU;simp only[dE,oD]at eU;exact⟨rd.dG.toNat,by omega,by omega⟩
      have HG:=aY hG;rw[hG]at k1;have fE:(0:Int)<=(i:Int):=by omega
      have mj:(i:Int)<(rs.length:Int):=by omega
      have AB:decide ((i:Int)<0)=false:=decide_eq_false (by omega);obtain⟨V5,NH⟩:∃V5,wc.alloc (ab #[za .i64 1,za .i64 i,za .i64 (-1),za .i64 b,zc zb 0 0] 35)=V5:=⟨_,rfl⟩;have jL:zk wc.heap.size wc V5:=by rw[<-NH];exact au
      have xV:V5.heap[wc.heap.size]?=zd (ab #[za .i64 1,za .i64 i,za .i64 (-1),za .i64 b,zc zb 0 0] 35 (0,0)):=by rw[<-NH];exact aL _ _
      have F5:=IQ.out.call jL;have hno:=zmq (.slice jH rd.branches.length jI) G (-1) (-1) V5 Nz (wc.heap.size+1) (ID xV);have l0:V5.cell? ⟨rb,ro+i*2,zb⟩=_:=(jL.cell (p:=⟨rb,ro+i*2,zb⟩) (bA lF fT.size)).trans k0;have l1:V5.cell? ⟨rb,ro+i*2+1,zb⟩=_:=(jL.cell (p:=⟨rb,ro+i*2+1,zb⟩) (bA lF fT.size)).trans k1;have XA:=aY F5;have xi:=IQ.out.size;have Hbc:=aY rI;have dr:=aY uv;have zxa:ze (∀W,zk w.heap.size w W->W.cell? ⟨rb,ro+i*2,zb⟩=zd (.slice jH rd.branches.length jI)/\W.cell? ⟨rb,ro+i*2+1,zb⟩=zd (za .i64 G)):=λW hb=>by
       obtain⟨zj,ro',xK,rd',e1,zw9,_,m0,m1,_⟩:=yY.elem hb lZ;cases e1;have e2:rd'=rd:=by rw[<-gE.out,<-zw9.out]
       subst e2;obtain⟨_,_,_,n0,n1,_⟩:=yY.elem (Below.refl _ _) lZ;have z0:=(hb.cell (p:=⟨rb,ro+i*2,zb⟩) lF);have y0:=(fT.cell (p:=⟨rb,ro+i*2,zb⟩) lF);have z1:=(hb.cell (p:=⟨rb,ro+i*2+1,zb⟩) lF);have y1:=(fT.cell (p:=⟨rb,ro+i*2+1,zb⟩) lF);exact⟨z0.trans (y0.symm.trans k0),z1.trans (y1.symm.trans k1)⟩
      obtain⟨g9,Hg9⟩:∃g9,ze (wc.heap.size=g9):=⟨_,rfl⟩;obtain⟨d0,d1,d2,d3,e1,e2,e3⟩:=XA.out.cells;have XS:=aY NH;clear c0 c1 c2 c3 f1 f2 f3 yY rI uv hG eU F5 k0 k1 NH
      go_upto_region 14 with fail
      rw[XS.out];clear XS
      go_wp2_with fail
      refine hno.mono ?_;rintro e W6 ⟨gs,cap,rfl,mw,dz⟩;have x6:=cB xV dz;have q4:=cF _ _ 4 _ _ x6;obtain⟨q0,q1,q2,q3,q5⟩:=eW x6;have FI:Fi w #[zc (zd ⟨rb,ro,zb⟩) rs.length rc,cv,za .i64 d.width,.slice ba d.base.length bc,fv,zc (zd ⟨tb,EM,zb⟩) d.tag.length tcp,zc (zd ⟨eb,eo,zb⟩) d.fin.length Gj,nv,kv] #[za .i64 L,.string B,.bool C,za .i64 S,za .i64 n] wc.heap.size (zd ⟨gs,0,zb⟩) (G+1) cap i (-1) b (gM (-1,-1) G) (W6.setCell ⟨wc.heap.size,4,zb⟩ (zc (zd ⟨gs,0,zb⟩) (G+1) cap)):=Fi.row (XA.out.call dz) x6 xi (by rw[C8];exact mw);have qX:=aY FI;obtain⟨W7,Ci⟩:∃W7,W6.setCell ⟨wc.heap.size,4,zb⟩ (zc (zd ⟨gs,0,zb⟩) (G+1) cap)=W7:=⟨_,rfl⟩;rw[Ci]at qX;obtain⟨m,Hm⟩:∃m,ze (G+1=m):=⟨_,rfl⟩;rw[Hm.out]at qX Ci ⊢;have hGm:(G:Int)+1=(m:Int):=by have:=Hm.out;omega
      clear hno d0 d1 d2 d3 e1 e2 e3 mw FI l0 l1 x6
      go_upto_region 15 with fail
      clear Ci q0 q1 q2 q3 q4 q5;rw[Hg9.out]at qX ⊢;go_wp2;obtain⟨W9,JV⟩:∃W9,W9=W7:=⟨_,rfl⟩;subst JV
      go_loopw [10] (λav wr=>∃(k:Nat) (sa:Int),k<=b+1/\av=za .i64 ((k:Int)-1)/\ze (Fi w #[zc (zd ⟨rb,ro,zb⟩) rs.length rc,cv,za .i64 d.width,.slice ba d.base.length bc,fv,zc (zd ⟨tb,EM,zb⟩) d.tag.length tcp,zc (zd ⟨eb,eo,zb⟩) d.fin.length Gj,nv,kv] #[za .i64 L,.string B,.bool C,za .i64 S,za .i64 n] g9 (zd ⟨gs,0,zb⟩) m cap i sa b (gM (-1,-1) G) wr)/\ze (wX rd B b C k sa))
       (λav _=>(intOf av+1).toNat)
      case atStart=>exact⟨b+1,-1,ai _,by rw[show (((b+1:Nat):Int)-1)=(b:Int) from by omega],qX,.inl ⟨rfl,λj h1 h2=>by omega⟩⟩
      case round=>
       clear qX;obtain⟨k,sa,hk,rfl,qX,I0⟩:=hrel;obtain⟨d0,d1,d2,d3,e1,e2,e3⟩:=qX.out.fo.cells;have aB:=qX.out.fo.below;obtain⟨l0,l1⟩:=zxa.out wr aB
       by_cases il:k=0
       ·have Qr:ze (Dh rd B b C sa):=by
         have:=I0.out;rw[il]at this;exact this.done
        rw[show ((k:Int)-1)=-1 from by omega];obtain⟨y0,y1,y2,y3,y4⟩:=eW qX.out.bx;obtain⟨W9,JV⟩:∃W9,W9=wr:=⟨_,rfl⟩;subst JV;clear I0 il hk
        go_upto_region 20 with fail
        go_cut [110] from 108 to 110 (λv wx=>v=.bool (decide (0<=sa))/\wx=W9)
        case first=>
         go_wp2
         go_meet
         exact⟨by first|rfl|simp,rfl⟩
        obtain⟨rfl,uJ⟩:=hcut;subst uJ
        rename_i K hK
        refine hK _ _ ?_;clear hK K;obtain⟨W9,JV⟩:∃W9,W9=wc:=⟨_,rfl⟩;subst JV
        go_cut [] from 110 to 124 (λwx=>∃(so:Option Addr) (m cap:Nat) (sp:List (Int×Int)),ze (Fi w #[zc (zd ⟨rb,ro,zb⟩) rs.length rc,cv,za .i64 d.width,.slice ba d.base.length bc,fv,zc (zd ⟨tb,EM,zb⟩) d.tag.length tcp,zc (zd ⟨eb,eo,zb⟩) d.fin.length Gj,nv,kv] #[za .i64 L,.string B,.bool C,za .i64 S,za .i64 n] g9 so m cap i sa b sp wx)/\ze (Bg rd B sa b C sp))
        case first=>
         rcases Qr.out with ⟨rfl,-⟩|⟨j,rfl,hjb,SW,-⟩
         ·have I1:ze (Bg rd B (-1) b C (gM (-1,-1) G)):=.inl ⟨rfl,by rw[HG.out];rfl⟩;go_wp2
          go_meet
          exact⟨_,_,_,_,qX,I1⟩
         ·obtain⟨r,hr⟩:=zok rd.dG rd.branches B (j:Int) (b:Int) C;have Az:=λW (hb:zk w.heap.size w W)=>zhI rd.dG (.slice jH rd.branches.length jI) rd.branches B j b C r W (dr.out.below hb) TM hr
          rw[HG.out]at Az;have I1:ze (Bg rd B j b C r):=.inr ⟨by omega,hr⟩;have hdj:decide ((0:Int)<=(j:Int))=true:=decide_eq_true (by omega);have Hcp:=aY Az;clear Az Qr
          go_upto_region 21 with fail
          refine xM 12 (λw'=>∃nq,w'=W9.drewN nq) fU ⟨1,rfl⟩ (by decide) (by kernel_rfl) ?_;intro os ck;simp only[nE,tV]at ck;subst ck
          repeat (go_big_quiet_step (fail))
          refine wpQuiet_nil ?_;rintro w' ⟨nq,rfl⟩ r' bZ;simp only[wM,wN]at bZ;subst bZ;have MA:=aY (qX.out.call (below_drewN (Below.refl W9.heap.size W9) nq));have hcq:=Hcp.out (W9.drewN nq) MA.out.fo.below;clear d0 d1 d2 d3 e1 e2 e3 l0 l1 y0 y1 y2 y3 y4 aB
          go_wp2_with fail
          refine hcq.mono ?_;rintro e W8 ⟨v8,rfl,kD,dX⟩;obtain⟨so8,m8,fB,rfl⟩:∃so m cap,v8=.slice so m cap:=by
           rcases kD.2 with ⟨e,_⟩|⟨g,c,_,e,_⟩
           ·exact⟨_,_,_,e⟩
           ·exact⟨_,_,_,e⟩
          have vv:=MA.out.call dX;have q4:=cF _ _ 4 _ _ vv.bx;obtain⟨y0,y1,y2,y3,y4⟩:=eW vv.bx;have Qb:=aY (Fi.row vv.fo vv.bx vv.lo (qO kD (ID MA.out.bx)));clear kD vv MA qX hcq;go_wp2
          go_meet
          exact⟨_,_,_,_,Qb,I1⟩
        case rest=>
         obtain⟨so,m1,sQ,sp,FN,I1⟩:=hcut
         rename_i K hK
         refine hK _ _ ?_;clear hK K qX d0 d1 d2 d3 e1 e2 e3 l0 l1 y0 y1 y2 y3 y4 aB;obtain⟨d0,d1,d2,d3,e1,e2,e3⟩:=FN.out.fo.cells;obtain⟨y0,y1,y2,y3,y4⟩:=eW FN.out.bx;have ae:(0:Int)<=(b:Int):=by omega
         have ak:(b:Int)<=(B.size:Int):=by omega
         have hl:=FN.out.lo;have n1:g9≠w.heap.size+1+1:=by omega
         have n2:w.heap.size+1+1≠g9:=by omega
         go_upto_region 22 with fail
         go_region
         go_wp2;refine bD (v:=.tuple #[zg #[za .i64 L,.string (B.extract b B.size),.bool C,za .i64 0,za .i64 0],zg #[za .i64 1,za .i64 i,za .i64 sa,za .i64 b,.slice so m1 sQ]]) (by simp[results,results7,go_sem,d2,d3]) rfl ?_;refine⟨⟨L,B.extract b B.size,C,0,0⟩,⟨1,i,sa,b,sp⟩,.inr (.inl ⟨HB.out,b,by dsimp only;omega,uD,λj h1 h2=>?_,?_,sa,sp,?_,?_,rfl,?_⟩),.slice so m1 sQ,rfl,?_,?_⟩
         ·rw[<-nI.out];exact sF.out j (by dsimp only at h1;omega) h2
         ·rw[<-nI.out,Hi.out];omega
         ·rw[<-nI.out,Hi.out,sx,gE.out];exact Qr.out
         ·rw[<-nI.out,Hi.out,sx,gE.out];exact I1.out
         ·rw[<-nI.out,Hi.out]
         ·refine zmu (qO (kH FN.out.own λk e=>?_) (show w.heap.size<=g9+1 by omega));have hk:=zkb FN.out.own e;exact Mi (by omega) (by omega) _ _ _ _ _ _ _ _ _ _
         ·refine Below.drew ?_
          iterate 10 refine Below.setCell ?_ (by simp<;>omega) _
          exact FN.out.fo.below
       ·obtain⟨p,rfl⟩:∃p,k=p+1:=⟨k-1,by omega⟩;rw[show (((p+1:Nat):Int)-1)=(p:Int) from by omega];have ja:decide ((p:Int)>=0)=true:=decide_eq_true (by omega);have Oh:=λnq:Nat=>zlK (G:Int) (.slice jH rd.branches.length jI) rd.branches B p b C (wr.drewN nq) (dr.out.below (below_drewN aB nq)) TM
        rw[<-HG.out]at Oh;have HSP:ze (∀q:Bool,(q=true↔sj rd.dG rd.branches B p b C)->q=true->sj rd.dG rd.branches B p b C):=λq h1 h2=>h1.1 h2
        go_upto_region 18 with fail
        refine xM 11 (λw'=>∃nq,w'=wr.drewN nq) fU ⟨1,rfl⟩ (by decide) (by kernel_rfl) ?_;intro os ck;simp only[nE,tV]at ck;subst ck
        repeat (go_big_quiet_step (fail))
        refine wpQuiet_nil ?_;rintro w' ⟨nq,rfl⟩ r' bZ;simp only[wM,wN]at bZ;subst bZ;rw[HG.out]at Oh
        go_wp2_with fail
        refine(Oh nq).mono ?_;rintro e W8 ⟨q,rfl,nU,dX⟩;have vv:=aY (qX.out.call ((below_drewN (Below.refl wr.heap.size wr) nq).trans dX));clear Oh d0 d1 d2 d3 e1 e2 e3 l0 l1 qX aB;cases q
        ·have fI:ze (wX rd B b C p sa):=I0.out.no (by rw[HG.out];exact λh=>by have:=nU.2 h;cases this);clear nU I0;go_wp2
         go_roundw
         case rel=>exact⟨p,sa,by omega,by go_num,vv,fI⟩
         case measure=>simp[intOf]
        ·have fI:ze (wX rd B b C p p):=wX.yes (by omega) (by rw[HG.out];exact nU.1 rfl);have q2:=cF _ _ 2 _ _ vv.out.bx;obtain⟨y0,y1,y2,y3,y4⟩:=eW vv.out.bx;have Qb:=aY (vv.out.put p);clear nU I0 vv;go_wp2
         go_roundw
         case rel=>exact⟨p,p,by omega,by go_num,Qb,fI⟩
         case measure=>simp[intOf]
  ·have Co:b=B.size+1:=by omega
   have oV:decide ((b:Int)<=(B.size:Int))=false:=decide_eq_false (by omega);have e1:st (b-1)=st B.size:=by rw[Co,Dk]
   rw[e1];obtain⟨c0,c1,c2,c3,f1,f2,f3⟩:=HF.out.cells
   go_upto_region 23 with fail
   cases C
   ·go_wp2;refine bD (v:=.tuple #[zg #[za .i64 L,.string B,.bool false,za .i64 (st B.size),za .i64 B.size],zg #[za .i64 2,za .i64 0,za .i64 0,za .i64 0,zc zb 0 0]]) (by simp[results,results7,go_sem,c2,c3]) rfl ?_;refine⟨⟨L,B,false,st B.size,B.size⟩,⟨2,0,0,0,[]⟩,.inr (.inr ⟨HB.out,λj h1 h2=>?_,?_,rfl⟩),zc zb 0 0,rfl,⟨rfl,.inl ⟨rfl,rfl⟩⟩,?_⟩
    ·rw[<-nI.out];exact sF.out j (by dsimp only at h1;omega) (by dsimp only at h2;omega)
    ·rw[jY.out]
    ·iterate 12 refine Below.setCell ?_ (by simp<;>omega) _
     exact HF.out.below
   ·go_wp2;refine bD (v:=.tuple #[zg #[za .i64 L,.string B,.bool true,za .i64 (st B.size),za .i64 B.size],zg #[za .i64 3,za .i64 0,za .i64 0,za .i64 0,zc zb 0 0]]) (by simp[results,results7,go_sem,c2,c3]) rfl ?_;refine⟨⟨L,B,true,st B.size,B.size⟩,⟨3,0,0,0,[]⟩,.inr (.inr ⟨HB.out,λj h1 h2=>?_,?_,rfl⟩),zc zb 0 0,rfl,⟨rfl,.inl ⟨rfl,rfl⟩⟩,?_⟩
    ·rw[<-nI.out];exact sF.out j (by dsimp only at h1;omega) (by dsimp only at h2;omega)
    ·rw[jY.out]
    ·iterate 12 refine Below.setCell ?_ (by simp<;>omega) _
     exact HF.out.below
end
section
open Go.RowKit
attribute [local go_sem ↓] wp_at_zero wp_at_succ
theorem wP.base{w w' W:aa}{rv cv bv fv tv ev nv kv:zf}{wd:Int}{rs:List bL}{bf g cap gq:Nat}{vs:List zf}(h:wP w' rv cv bv fv tv ev nv kv wd rs bf g cap gq vs W)(hb:zk w.heap.size w w'):wP w rv cv bv fv tv ev nv kv wd rs bf g cap gq vs W:=
 ⟨aj hb hb.size h.bj,aU hb.size h.Ro,aU hb.size h.JF,h.box,qO h.own hb.size,h.OK,h.qs⟩
theorem zlc{lo:Nat}(ao:Option Addr)(rc:Nat)(cv bv fv tv ev nv kv:zf)(rs:List bL)(d:bG)(s:eE)(w:aa)(hr:gZ lo w (.slice ao rs.length rc) rs)(hsm:qM rs)(hs:eN lo w cv bv fv tv ev nv kv d)(rQ:zq d)(sV:fG w):
  Calls prog 10 #[zg #[.slice ao rs.length rc,cv,za .i64 d.width,bv,fv,tv,ev,nv,kv],zg #[za .i64 s.L,.string s.B,.bool s.C,za .i64 s.S,za .i64 s.N]] w λe w'=>∃s' x,oN rs d s s' x/\Jo w s' x e w':=by
 have F0:=Fo.new w 41 32 32 35 #[.slice ao rs.length rc,cv,za .i64 d.width,bv,fv,tv,ev,nv,kv] #[za .i64 s.L,.string s.B,.bool s.C,za .i64 s.S,za .i64 s.N] #[za .i64 0,.string ⟨#[]⟩,.bool false,za .i64 0,za .i64 0] #[za .i64 0,za .i64 0,za .i64 0,za .i64 0,zc zb 0 0];obtain⟨W0,ah⟩:∃W0,(((w.alloc (ab #[.slice ao rs.length rc,cv,za .i64 d.width,bv,fv,tv,ev,nv,kv] 41)).alloc (ab #[za .i64 s.L,.string s.B,.bool s.C,za .i64 s.S,za .i64 s.N] 32)).alloc (ab #[za .i64 0,.string ⟨#[]⟩,.bool false,za .i64 0,za .i64 0] 32)).alloc (ab #[za .i64 0,za .i64 0,za .i64 0,za .i64 0,zc zb 0 0] 35)=W0:=⟨_,rfl⟩;rw[ah]at F0;obtain⟨ba,bc,J2⟩:∃ba bc,bv=.slice ba d.base.length bc:=by obtain⟨ba,bc,h,_⟩:=hs.base;exact⟨ba,bc,h⟩
 subst J2;have cf:=zj5 ao rc cv _ fv tv ev nv kv rs d W0 (hr.below F0.below) hsm (hs.below F0.below) rQ;have zw6:ze (qe rs d s=false->∀W,Fo w 41 32 32 35 #[.slice ao rs.length rc,cv,za .i64 d.width,.slice ba d.base.length bc,fv,tv,ev,nv,kv] #[za .i64 s.L,.string s.B,.bool s.C,za .i64 s.S,za .i64 s.N] #[za .i64 0,.string ⟨#[]⟩,.bool false,za .i64 0,za .i64 0] #[za .i64 0,za .i64 0,za .i64 0,za .i64 0,zc zb 0 0] W->True):=λ_ _ _=>trivial
 have Hn:ze (qe rs d s=(rT rs d&&nC s&&decide (s.S<d.base.length))):=rfl;obtain⟨c0,c1,c2,c3,f1,f2,f3⟩:=F0.cells;have Hr:=aY hr;have Hs:=aY hs;have FJ:=aY sV;clear hr hs sV zw6
 go_enter func10,ntmps10
 go_wp2_with fail
 refine cf.mono ?_;rintro e W1 (⟨hm,rfl,ak⟩|⟨hm,bf,g,cap,gq,vs,rfl,hF⟩)
 ·have F1:=F0.call ak;have HR:ze (oN rs d s .zero .zero):=.inl ⟨by rw[Hn.out,hm];rfl,rfl,rfl⟩;clear c0 c1 c2 c3 f1 f2 f3 ah cf F0 ak hm Hn;obtain⟨c0,c1,c2,c3,f1,f2,f3⟩:=F1.cells;go_wp2;exact bD (v:=.tuple #[zg #[za .i64 0,.string ⟨#[]⟩,.bool false,za .i64 0,za .i64 0],zg #[za .i64 0,za .i64 0,za .i64 0,za .i64 0,zc zb 0 0]]) (by simp[results,results10,go_sem,c2,c3]) rfl ⟨_,_,HR.out,_,rfl,⟨rfl,.inl ⟨rfl,rfl⟩⟩,by
   iterate 10 refine Below.setCell ?_ (by simp<;>omega) _
   exact F1.below⟩
 have F1:=F0.call hF.bj;have Zq:=zsN (w.heap.size+1) s W1 F1.r1;have HF:=aY (hF.base F0.below);have qW:=aY F1;rw[hm]at Hn;clear c0 c1 c2 c3 f1 f2 f3 ah cf F0 hm hF F1;obtain⟨c0,c1,c2,c3,f1,f2,f3⟩:=qW.out.cells
 go_wp2_with fail
 refine Zq.mono ?_;rintro e W2 ⟨rfl,af⟩;have Dr:=aY (HF.out.below af);have F2:=qW.out.call af;clear c0 c1 c2 c3 f1 f2 f3 Zq HF qW af;obtain⟨c0,c1,c2,c3,f1,f2,f3⟩:=F2.cells;cases hq:nC s
 ·have HR:ze (oN rs d s .zero .zero):=.inl ⟨by rw[Hn.out,hq];rfl,rfl,rfl⟩;go_wp2;exact bD (v:=.tuple #[zg #[za .i64 0,.string ⟨#[]⟩,.bool false,za .i64 0,za .i64 0],zg #[za .i64 0,za .i64 0,za .i64 0,za .i64 0,zc zb 0 0]]) (by simp[results,results10,go_sem,c2,c3]) rfl ⟨_,_,HR.out,_,rfl,⟨rfl,.inl ⟨rfl,rfl⟩⟩,by
   iterate 10 refine Below.setCell ?_ (by simp<;>omega) _
   exact F2.below⟩
 by_cases hS:s.S<(d.base.length:Int)
 case neg=>
  have HR:ze (oN rs d s .zero .zero):=.inl ⟨by rw[Hn.out,hq];exact decide_eq_false hS,rfl,rfl⟩;have NG:decide (s.S>=(d.base.length:Int))=true:=decide_eq_true (by omega);go_wp2;exact bD (v:=.tuple #[zg #[za .i64 0,.string ⟨#[]⟩,.bool false,za .i64 0,za .i64 0],zg #[za .i64 0,za .i64 0,za .i64 0,za .i64 0,zc zb 0 0]]) (by simp[results,results10,go_sem,c2,c3]) rfl ⟨_,_,HR.out,_,rfl,⟨rfl,.inl ⟨rfl,rfl⟩⟩,by
   iterate 10 refine Below.setCell ?_ (by simp<;>omega) _
   exact F2.below⟩
 have NG:decide (s.S>=(d.base.length:Int))=false:=decide_eq_false (by omega);have hB:qe rs d s=true:=by rw[Hn.out,hq];exact decide_eq_true hS
 obtain⟨L,B,C,S,N⟩:=s;obtain⟨n,rfl⟩:∃n:Nat,N=n:=⟨N.toNat,by obtain⟨-,-,-,-,-,-,-,h0,-⟩:=ER hB;dsimp only at h0;omega⟩;dsimp only at *;have Kt:=zrq w W2 bf g cap gq (w.heap.size+1) vs ao rc cv _ fv tv ev nv kv rs d L B C S n Hr.out hsm Hs.out FJ.out hB Dr.out F2.r1 (by omega);have Xz:=aY F2;clear Hn hq hS F2
 go_wp2_with fail
 refine Kt.mono ?_;rintro e W3 ⟨s',x,v,hx,rfl,g3,kh,CV⟩;obtain⟨so,sm,sc,rfl⟩:∃so sm sc,v=.slice so sm sc:=by
  rcases kh.2 with ⟨e,_⟩|⟨g,c,_,e,_⟩
  ·exact⟨_,_,_,e⟩
  ·exact⟨_,_,_,e⟩
 obtain⟨L',B',C',S',N'⟩:=s';obtain⟨k',r',a',e',sp⟩:=x;dsimp only at g3 kh;simp only[jq];have hF2:=Xz.out;have tx:=hF2.size;have ed:=hF2.below;have mh:=CV.size;have q2:=Dr.out.qs;have n2:w.heap.size+2≠gq:=λe=>by
  have:=hF2.r2;rw[e,q2]at this;exact absurd (bP this) (by decide)
 have n3:w.heap.size+3≠gq:=λe=>by
  have:=hF2.r3;rw[e,q2]at this;exact absurd (bP this) (by decide)
 have ay:zk w.heap.size w W3:=⟨CV.os.trans ed.os,CV.tape.trans ed.tape,CV.output.trans ed.output,by omega,λk hk=>(CV.same k (by omega) (by have:=Dr.out.JF;show ¬(k=w.heap.size+1\/k=gq);omega)).trans (ed.block k hk)⟩;have r2:=(CV.same (w.heap.size+2) (by omega) (by show ¬(w.heap.size+2=w.heap.size+1\/w.heap.size+2=gq);omega)).trans hF2.r2;have r3:=(CV.same (w.heap.size+3) (by omega) (by show ¬(w.heap.size+3=w.heap.size+1\/w.heap.size+3=gq);omega)).trans hF2.r3;obtain⟨W4,rF⟩:∃W4,W3.alloc (ab #[za .i64 k',za .i64 r',za .i64 a',za .i64 e',.slice so sm sc] 35)=W4:=⟨_,rfl⟩;have aG:zk W3.heap.size W3 W4:=by rw[<-rF];exact au
 have x4:W4.heap[W3.heap.size]?=zd (ab #[za .i64 k',za .i64 r',za .i64 a',za .i64 e',.slice so sm sc] 35 (0,0)):=by rw[<-rF];exact aL _ _
 have zx3:=aj ay ay.size aG;have jS:=cI kh aG;have MM:=aY rF;obtain⟨y0,y1,y2,y3,y4⟩:=eW x4;obtain⟨t0,t1,t2,t3,t4⟩:=eW (cB g3 aG);have d2:=cm (cB r2 aG);have d3:=cm (cB r3 aG);have e2:∀o,W4.frozen? ⟨w.heap.size+2,o,zb⟩=false:=λo=>cF _ _ o _ _ (cB r2 aG)
 have e3:∀o,W4.frozen? ⟨w.heap.size+3,o,zb⟩=false:=λo=>cF _ _ o _ _ (cB r3 aG)
 have m1:W3.heap.size≠w.heap.size+1+1:=by omega
 have m2:w.heap.size+1+1≠W3.heap.size:=by omega
 have Hx:=aY hx;have yv:ze (∀W':aa,(∀k:Nat,k≠w.heap.size+2->k≠w.heap.size+3->W'.heap[k]?=W4.heap[k]?)->W'.ownsRow w.heap.size 71 2 (.slice so sm sc) sp.length (pv sp)):=λW' hk=>qO (kH jS λk e=>by
  have:=(iD jS e).1;exact hk k (by omega) (by omega)) (by omega)
 clear c0 c1 c2 c3 f1 f2 f3 Kt hx kh jS CV g3 x4 r2 r3 rF hF2 Xz Dr q2 NG
 go_upto_region 5 with fail
 rw[MM.out];clear MM
 go_region
 go_wp2;refine bD (v:=.tuple #[zg #[za .i64 L',.string B',.bool C',za .i64 S',za .i64 N'],zg #[za .i64 k',za .i64 r',za .i64 a',za .i64 e',.slice so sm sc]]) (by simp[results,results10,go_sem,d2,d3]) rfl ?_;refine⟨⟨L',B',C',S',N'⟩,⟨k',r',a',e',sp⟩,Hx.out,.slice so sm sc,rfl,?_,?_⟩
 ·exact zmu (yv.out _ λk h1 h2=>Mi h1 h2 _ _ _ _ _ _ _ _ _ _)
 ·refine Below.drew ?_
  iterate 10 refine Below.setCell ?_ (by simp<;>omega) _
  exact zx3
end
open Go
section
variable {P:Program} {md:Region.Mode} {ops:Array Oper} {Q:Exit->Act->aa->Prop}
def Mo(md:Region.Mode)(ops:Array Oper):Bool:=(List.range ops.size).all λi=>match ops[i]? with
 |some o=>o.guard.isNone&&o.after.all (λe=>!Region.binds md e || decide (e.on<i))
 |none=>true
def uo(l:Nat->Bool):Nat->Nat
 |0=>0
 |n+1=>uo l n+(if l n=true then 0 else 1)
theorem zjt(l:Nat->Bool)(i:Nat):∀n,n<=i->uo (λj=>l j || j==i) n=uo l n
 |0,_=>rfl
 |n+1,h=>by
  have e:(n==i)=false:=by simp;omega
  simp only[uo,zjt l i n (by omega),e,Bool.or_false]
theorem zl1(l:Nat->Bool)(i:Nat)(hl:l i=false):∀n,i<n->uo (λj=>l j || j==i) n+1=uo l n
 |0,h=>absurd h (dk _)
 |n+1,h=>by
  by_cases e:n=i
  ·subst e;simp[uo,zjt l n n (Nat.le_refl _),hl]
  ·have e1:(n==i)=false:=by simpa using e
   have:=zl1 l i hl n (by omega);simp only[uo,e1,Bool.or_false];omega
theorem zju(l:Nat->Bool):∀n,uo l n=0->∀i,i<n->l i=true
 |0,_,i,h=>absurd h (dk _)
 |n+1,h,i,hi=>by
  simp only[uo]at h
  by_cases hn:l n=true
  ·by_cases e:i=n
   ·rw[e];exact hn
   ·exact zju l n (by omega) i (by omega)
  ·rw[aq hn]at h;omega
theorem zpT{listed:Array Bool}(hB:Mo md ops=true)(hr:Region.ready md ops listed=[])(hs:listed.size=ops.size):∀n i,i<=n->i<ops.size->listed.getD i false=true:=by
 intro n
 induction n with
 |zero=>
  intro i hi hl;obtain rfl:i=0:=by omega
  cases h:listed.getD 0 false with
  |true=>rfl
  |false=>
   exfalso
   have hm:(0:Nat)∈Region.ready md ops listed:=by
    refine mem_ready.2 ⟨?_,ops[0],by simp[hl],λe he hb=>?_⟩
    ·rw[Mt]at h ⊢;rw[wG (by omega)]at h ⊢;exact h
    ·have h1:=jl.1 hB 0 (wI.2 hl);simp only[wG hl,dE,Array.all_eq_true']at h1;have h2:=h1.2 e he;rw[hb]at h2;simp at h2
   rw[hr]at hm;cases hm
 |succ n ih=>
  intro i hi hl
  by_cases e1:i<=n
  ·exact ih i e1 hl
  ·cases h:listed.getD i false with
   |true=>rfl
   |false=>
    exfalso
    have hm:i∈Region.ready md ops listed:=by
     refine mem_ready.2 ⟨?_,ops[i],by simp[hl],λe he hb=>?_⟩
     ·rw[Mt]at h ⊢;rw[wG (by omega)]at h ⊢;exact h
     ·have h1:=jl.1 hB i (wI.2 hl);simp only[wG hl,dE,Array.all_eq_true']at h1;have h2:=h1.2 e he;rw[hb]at h2;simp at h2;exact ih e.on (by omega) (by omega)
    rw[hr]at hm;cases hm
theorem zkI(J:(Nat->Bool)->Act->aa->Prop)(hB:Mo md ops=true)
  (hstep:∀l a w i o,J l a w->ops[i]?=zd o->l i=false->(∀e∈o.after,Region.binds md e=true->l e.on=true)->o.wp P a w (λa' w'=>J (λj=>l j || j==i) a' w') Q)
  (AC:∀l a w,J l a w->(∀i,i<ops.size->l i=true)->Q .normal a w):
  ∀(fuel:Nat) (listed:Array Bool) (a:Act) (w:aa),listed.size=ops.size->uo (λj=>listed.getD j false) ops.size<=fuel->J (λj=>listed.getD j false) a w->wpAny P md ops Q fuel listed a w
 |0,listed,a,w,hs,hc,hJ=>by
  have db:=zju (λj=>listed.getD j false) ops.size (by omega);refine⟨List.eq_nil_iff_forall_not_mem.2 λj hj=>?_,AC _ a w hJ db⟩;obtain⟨h1,o,ho,-⟩:=mem_ready.1 hj;have hj:j<ops.size:=(ap.1 ho).1;have h2:=db j hj;simp only[Mt,wG (show j<listed.size by omega),Option.getD_some]at h1 h2;rw[h1]at h2;cases h2
 |fuel+1,listed,a,w,hs,hc,hJ=>by
  refine⟨λhr=>AC _ a w hJ λi hi=>zpT hB hr hs i i (ai _) hi,λi hi=>?_⟩;obtain⟨h1,o,ho,db⟩:=mem_ready.1 hi;have lZ:i<ops.size:=(ap.1 ho).1;have hg:=jl.1 hB i (wI.2 lZ);simp only[ho,dE]at hg;have hl:listed.getD i false=false:=by
   simp only[Mt,wG (show i<listed.size by omega),Option.getD_some]at h1 ⊢;exact h1
  have hup:(λj=>(listed.setIfInBounds i true).getD j false)=λj=>listed.getD j false || j==i:=by
   funext j
   by_cases e:j=i
   ·subst e;simp[Array.getD_eq_getD_getElem?,show j<listed.size by omega]
   ·have e1:(j==i)=false:=by simpa using e
    simp[Array.getD_eq_getD_getElem?,Ne.symm e,e1]
  unfold wpOp;simp only[ho];rw[aD (by have:=hg.1;simp[Region.wanted];rw[Option.isNone_iff_eq_none.1 this])];refine .inl (Oper.wp_mono (λa' w' hJ'=>?_) (hstep _ a w i o hJ ho hl db));refine zkI J hB hstep AC fuel _ a' w' (by simp[hs]) ?_ (by rw[hup];exact hJ');rw[hup];have:=zl1 (λj=>listed.getD j false) i hl ops.size lZ;omega
theorem zoq(l:Nat->Bool):∀n,uo l n<=n
 |0=>ai _
 |n+1=>by have:=zoq l n;simp only[uo];split<;>omega
theorem zfo{id:Nat}{a:Act}{w:aa}{all:List Oper}(J:(Nat->Bool)->Act->aa->Prop)(hm:P.follows .mixedOrders=true)(hB:Mo .any all.toArray=true)(h0:J (λ_=>false) a w.drew)
  (hstep:∀l a w i o,J l a w->all[i]?=zd o->l i=false->(∀e∈o.after,Region.binds .any e=true->l e.on=true)->o.wp P a w (λa' w'=>J (λj=>l j || j==i) a' w') (vk Q))
  (AC:∀l a w,J l a w->(∀i,i<all.length->l i=true)->Q .normal a w):(Code.region id all.toArray true).wp P Q a w:=by
 refine wp_mono (wp_region_any hm ?_) E7;refine zkI (Q:=vk Q) J hB (λl a w i o h1 h2=>hstep l a w i o h1 (by simpa using h2)) (λl a w h1 h2=>?_) _ _ a w.drew (by simp) ?_ ?_
 ·rw[wy];exact AC l a w h1 (by simpa using h2)
 ·have:=zoq (λj=>(Array.replicate all.toArray.size false).getD j false) all.toArray.size
  simpa using this
 ·have e:(λj=>(Array.replicate all.toArray.size false).getD j false)=λ_=>false:=by
   funext j
   simp[Array.getD_eq_getD_getElem?,Array.getElem?_replicate];split<;>rfl
  rw[e];exact h0
theorem zsp{a b:Act}(h1:a.defers=b.defers)(h2:a.tmps.size=b.tmps.size)(h3:∀s,a.eval (.tmp s)=b.eval (.tmp s)):a=b:=by
 obtain⟨t1,d1⟩:=a;obtain⟨t2,d2⟩:=b;have e:t1=t2:=by
  apply Array.ext h2
  intro i dh th;have:=h3 i;simp only[Act.eval,Mt,wG dh,wG th,Option.getD_some]at this;exact this
 subst e;simp only at h1;subst h1
 rfl
structure sC(a0 a:Act)(D:List Nat):Prop where
 df:a.defers=a0.defers
 sz:a.tmps.size=a0.tmps.size
 ev:∀s,s∉D->a.eval (.tmp s)=a0.eval (.tmp s)
theorem sC.refl(a:Act)(D:List Nat):sC a a D:=⟨rfl,rfl,λ_ _=>rfl⟩
theorem sC.put{a0 a:Act}{D:List Nat}(h:sC a0 a D){d:Nat}(hd:d∈D)(v:zf):sC a0 (a.put (zd d) v) D:=
 ⟨h.df,by simp[Act.put,h.sz],λs hs=>(Act.eval_put (λe he=>by injection he with he;subst he;intro e2;injection e2 with e2;subst e2;exact hs hd)).trans (h.ev s hs)⟩
theorem zjE{a:Act}{d:Nat}{v:zf}(h:d<a.tmps.size):(a.put (zd d) v).eval (.tmp d)=v:=by
 simp[Act.put,Act.eval,h]
theorem zhS{a:Act}{d s:Nat}{v:zf}(h:s≠d):(a.put (zd d) v).eval (.tmp s)=a.eval (.tmp s):=
 Act.eval_put (λe he=>by injection he with he;subst he;intro e2;injection e2 with e2;exact h e2)
theorem Wn:∀(ps:List (Nat×zf)) (a0 a:Act),sC a0 a (ps.map Prod.fst)->(∀p∈ps,p.1<a0.tmps.size/\a.eval (.tmp p.1)=p.2)->a=ps.foldl (λa p=>a.put (zd p.1) p.2) a0
 |[],a0,a,h,_=>zsp h.df h.sz λs=>h.ev s (by simp)
 |p::ps,a0,a,h,hv=>by
  have h1:=hv p (by simp);refine Wn ps (a0.put (zd p.1) p.2) a ⟨h.df,by simp[Act.put,h.sz],λs hs=>?_⟩ λq hq=>⟨by simp[Act.put];exact(hv q (by simp[hq])).1,(hv q (by simp[hq])).2⟩
  by_cases e:s=p.1
  ·subst e;rw[zjE h1.1];exact h1.2
  ·rw[zhS e];exact h.ev s (by simp only[vm,oB,not_or];exact⟨e,hs⟩)
end
end Go.Proofs.YtdimhpfiieepiaaGreatDoor
