import Derived.Test.YtdimhpfiieepiaaGreatDoorC37
import Derived.Deep.RegionHeld3
import Derived.Deep.DrawnRows
namespace Go.Proofs.YtdimhpfiieepiaaGreatDoor
open Proofs.Tryz
open Value renaming int->zb,slice->zh,agg->zl,pointer->zn
open Option renaming some->zc,none->ze
open Go renaming Value->zf,World->zi,TypeId->zm,Calls->zp
open Obj renaming cells->zg
open RowKit renaming Hid->zj,Below->zk
set_option maxHeartbeats 2000000
set_option maxRecDepth 100000
open Go.RowKit
attribute [local go_sem ↓] wp_at_zero wp_at_succ
theorem zkc{w:zi}{lo k n sz:Nat}{v:zf}{e:zm}{xs:List zf}(h:w.ownsRow lo e sz v n xs)(hk:v.ownBlock=zc k):lo<=k:=by
 rcases h.2 with ⟨h0,_⟩|⟨g',cap',ax,hv,h1,_⟩
 ·subst h0;simp[Value.ownBlock]at hk
 ·subst hv;have hk:g'=k:=by simpa [Value.ownBlock]using hk
  omega
def xn(r:bi)(t:ByteArray)(b:Nat)(cl:Bool)(k:Nat)(a:Int):Prop:=
 (a=-1/\∀j:Nat,k<=j->j<=b->¬sE r.di r.branches t j b cl)\/∃j:Nat,a=j/\k<=j/\j<=b/\sE r.di r.branches t j b cl/\∀i:Nat,k<=i->i<j->¬sE r.di r.branches t i b cl
theorem xn.no{r:bi}{t:ByteArray}{b:Nat}{cl:Bool}{k:Nat}{a:Int}(h:xn r t b cl (k+1) a)(hn:¬sE r.di r.branches t k b cl):xn r t b cl k a:=by
 rcases h with ⟨h1,h2⟩|⟨j,h1,h2,h3,h4,h5⟩
 ·refine .inl ⟨h1,λj hj hb=>?_⟩
  by_cases e:j=k
  ·subst e;exact hn
  ·exact h2 j (by omega) hb
 ·refine .inr ⟨j,h1,by omega,h3,h4,λi hi hj=>?_⟩
  by_cases e:i=k
  ·subst e;exact hn
  ·exact h5 i (by omega) hj
theorem xn.yes{r:bi}{t:ByteArray}{b:Nat}{cl:Bool}{k:Nat}(hk:k<=b)(hn:sE r.di r.branches t k b cl):xn r t b cl k k:=
 .inr ⟨k,rfl,aj _,hk,hn,λi h1 h2=>by omega⟩
theorem xn.done{r:bi}{t:ByteArray}{b:Nat}{cl:Bool}{a:Int}(h:xn r t b cl 0 a):DT r t b cl a:=by
 rcases h with ⟨h1,h2⟩|⟨j,h1,h2,h3,h4,h5⟩
 ·exact .inl ⟨h1,λk hk=>h2 k (aR _) hk⟩
 ·exact .inr ⟨j,h1,h3,h4,λi hi=>h5 i (aR _) hi⟩
theorem Ro{W:zi}{b1 b2 k:Nat}(h1:k≠b1)(h2:k≠b2)(v0 v1 v2 v3 v4 u0 u1 u2 u3 u4:zf):((((((((((W.setCell ⟨b1,0,ze⟩ v0).setCell ⟨b1,1,ze⟩ v1).setCell ⟨b1,2,ze⟩ v2).setCell ⟨b1,3,ze⟩ v3).setCell ⟨b1,4,ze⟩ v4).setCell ⟨b2,0,ze⟩ u0).setCell ⟨b2,1,ze⟩ u1).setCell ⟨b2,2,ze⟩ u2).setCell ⟨b2,3,ze⟩ u3).setCell ⟨b2,4,ze⟩ u4).heap[k]?=W.heap[k]?:=by
 rw[cH _ _ _ _ h2,cH _ _ _ _ h2,cH _ _ _ _ h2,cH _ _ _ _ h2,cH _ _ _ _ h2,cH _ _ _ _ h1,cH _ _ _ _ h1,cH _ _ _ _ h1,cH _ _ _ _ h1,cH _ _ _ _ h1]
theorem zrL{W:zi}{B sz n:Nat}{e:zm}{v:zf}{xs:List zf}(h:W.ownsRow B e sz v n xs):W.drew.ownsRow B e sz v n xs:=h
structure Fi(w:zi)(C0 C1:Array zf)(g9:Nat)(so:Option Addr)(m cap:Nat)(i sa b:Int)(sp:List (Int×Int))(W:zi):Prop where
 fo:Fo w 41 32 32 35 C0 C1 #[zb .i64 0,.string ⟨#[]⟩,.bool false,zb .i64 0,zb .i64 0] #[zb .i64 0,zb .i64 0,zb .i64 0,zb .i64 0,zh ze 0 0] W
 bx:W.heap[g9]?=zc (zg #[zb .i64 1,zb .i64 i,zb .i64 sa,zb .i64 b,.slice so m cap] 35 (0,0))
 own:W.ownsRow (g9+1) 71 2 (.slice so m cap) sp.length (pv sp)
 lo:w.heap.size+3<g9
section
variable {w W W':zi} {C0 C1:Array zf} {g9 m cap:Nat} {so:Option Addr} {i sa b:Int} {sp:List (Int×Int)}
theorem Fi.call(h:Fi w C0 C1 g9 so m cap i sa b sp W)(hb:zk W.heap.size W W'):Fi w C0 C1 g9 so m cap i sa b sp W':=
 ⟨h.fo.call hb,ck h.bx hb,dQ h.own hb,h.lo⟩
theorem Fo.zx5{t0 t1 t2 t3:zm}{C2 C3:Array zf}(h:Fo w t0 t1 t2 t3 C0 C1 C2 C3 W)(hl:w.heap.size+3<g9)(o:Nat)(u:zf):Fo w t0 t1 t2 t3 C0 C1 C2 C3 (W.setCell ⟨g9,o,ze⟩ u):=
 ⟨h.below.setCell (by show w.heap.size<=g9;omega) _,(cH _ _ _ _ (by show w.heap.size≠g9;omega)).trans h.r0,(cH _ _ _ _ (by show w.heap.size+1≠g9;omega)).trans h.r1,(cH _ _ _ _ (by show w.heap.size+2≠g9;omega)).trans h.r2,(cH _ _ _ _ (by show w.heap.size+3≠g9;omega)).trans h.r3⟩
theorem zmA{v:zf}{n:Nat}{xs:List zf}{e:zm}{sz:Nat}(h:W.ownsRow (g9+1) e sz v n xs)(o:Nat)(u:zf):(W.setCell ⟨g9,o,ze⟩ u).ownsRow (g9+1) e sz v n xs:=
 gR h λk e=>cH _ _ _ _ (by have:=zkc h e;show k≠g9;omega)
theorem Fi.put(h:Fi w C0 C1 g9 so m cap i sa b sp W)(Wm:Int):Fi w C0 C1 g9 so m cap i Wm b sp (W.setCell ⟨g9,2,ze⟩ (zb .i64 Wm)):=
 ⟨h.fo.zx5 h.lo _ _,dE W g9 2 _ _ (zb .i64 Wm) h.bx,zmA h.own _ _,h.lo⟩
theorem Fi.row{Qi:Option Addr}{m' cap':Nat}{Qk:List (Int×Int)}(fo:Fo w 41 32 32 35 C0 C1 #[zb .i64 0,.string ⟨#[]⟩,.bool false,zb .i64 0,zb .i64 0] #[zb .i64 0,zb .i64 0,zb .i64 0,zb .i64 0,zh ze 0 0] W)(bx:W.heap[g9]?=zc (zg #[zb .i64 1,zb .i64 i,zb .i64 sa,zb .i64 b,.slice so m cap] 35 (0,0)))(lo:w.heap.size+3<g9)(own:W.ownsRow (g9+1) 71 2 (.slice Qi m' cap') Qk.length (pv Qk)):Fi w C0 C1 g9 Qi m' cap' i sa b Qk (W.setCell ⟨g9,4,ze⟩ (.slice Qi m' cap')):=
 ⟨fo.zx5 lo _ _,dE W g9 4 _ _ (.slice Qi m' cap') bx,zmA own _ _,lo⟩
end
theorem zlO{lo:Nat}(ao:Option Addr)(rc:Nat)(cv bv fv tv ev nv kv:zf)(rs:List bi)(d:bj)(L:Int)(B:ByteArray)(C:Bool)(S:Int)(n:Nat)(w:zi)(hr:fU lo w (.slice ao rs.length rc) rs)(hsm:pC rs)(hs:fV lo w cv bv fv tv ev nv kv d)(hB:iw rs d ⟨L,B,C,S,n⟩=true):
  zp prog 7 #[zl #[.slice ao rs.length rc,cv,zb .i64 d.width,bv,fv,tv,ev,nv,kv],zl #[zb .i64 L,.string B,.bool C,zb .i64 S,zb .i64 n]] w λe w'=>∃s' x,vG rs d ⟨L,B,C,S,n⟩ s' x/\SL w s' x e w':=by
 have F0:=Fo.new w 41 32 32 35 #[.slice ao rs.length rc,cv,zb .i64 d.width,bv,fv,tv,ev,nv,kv] #[zb .i64 L,.string B,.bool C,zb .i64 S,zb .i64 n] #[zb .i64 0,.string ⟨#[]⟩,.bool false,zb .i64 0,zb .i64 0] #[zb .i64 0,zb .i64 0,zb .i64 0,zb .i64 0,zh ze 0 0];obtain⟨W0,ai⟩:∃W0,(((w.alloc (zg #[.slice ao rs.length rc,cv,zb .i64 d.width,bv,fv,tv,ev,nv,kv] 41)).alloc (zg #[zb .i64 L,.string B,.bool C,zb .i64 S,zb .i64 n] 32)).alloc (zg #[zb .i64 0,.string ⟨#[]⟩,.bool false,zb .i64 0,zb .i64 0] 32)).alloc (zg #[zb .i64 0,zb .i64 0,zb .i64 0,zb .i64 0,zh ze 0 0] 35)=W0:=⟨_,rfl⟩;rw[ai]at F0;obtain⟨LP,hf,Vw,E3,mN,Ih,TB,-,LW,CV,CX⟩:=BI hB;dsimp only at mN Ih TB LW CV CX;obtain⟨ba,bc,Ln⟩:∃ba bc,bv=.slice ba d.base.length bc:=by obtain⟨ba,bc,h,_⟩:=hs.base;exact⟨ba,bc,h⟩
 subst Ln;obtain⟨tao,tcp,htv,-,Mk⟩:=hs.tag;subst htv;obtain⟨eao,HU,hev,-,Lw⟩:=hs.fin;subst hev;have rT:=hf.n1;obtain⟨tb,FL,rfl,-,mZ,Ml⟩:=Mk (by rw[hf.tl];omega);obtain⟨eb,eo,rfl,-,Lx,pW⟩:=Lw (by rw[hf.el];omega);have c1:=WR ao rc cv _ fv _ _ nv kv rs d W0 (hr.below F0.below) hsm (hs.below F0.below);have pX:og rs d=true:=by simp only[iw,de]at hB;exact hB.1.1
 have wv:fk ⟨L,B,C,S,n⟩=true:=by simp only[iw,de]at hB;exact hB.1.2
 rw[pX]at c1;obtain⟨st,jU⟩:∃st:Nat->Nat,zj (∀b,((st b:Nat):Int)=qW d ⟨L,B,C,S,n⟩ b):=⟨λb=>(qW d ⟨L,B,C,S,n⟩ b).toNat,λb=>by have:=JL hB b;dsimp only;omega⟩;obtain⟨nm,nL⟩:∃nm:Nat->Int,zj (∀b,nm b=qS d ⟨L,B,C,S,n⟩ b):=⟨_,λ_=>rfl⟩;have GW:zj (∀b,st b<d.base.length):=λb=>by have:=JL hB b;have:=jU.out b;omega
 have Kq:zj (∀b,b<=n->((st b:Nat):Int)=S):=λb h=>by
  rw[jU.out];unfold qW;dsimp only;rw[show b-(n:Int).toNat=0 from by omega];rfl
 have SA:zj (∀b,n<=b->∀h:b<B.size,((st (b+1):Nat):Int)=qp d (st b) (B[b]'h).toNat):=λb h1 h2=>by
  rw[jU.out,zmL (s:=⟨L,B,C,S,n⟩) (by dsimp only;omega) (B[b]'h2).toNat (by dsimp only;simp[h2];rfl),<-jU.out]
  rfl
 have Kk:zj (∀b,-1<=nm b/\nm b<rs.length):=λb=>by rw[nL.out];exact YF hB b
 have Hnt:zj (∀b,(C&&b==B.size)=false->nm b=d.tag.getD (st b) 0):=λb h=>by
  rw[nL.out];unfold qS;dsimp only;rw[h];simp only[zZ,if_false];rw[<-jU.out];rfl
 have Hnf:zj (∀b,(C&&b==B.size)=true->nm b=d.fin.getD (st b) 0):=λb h=>by
  rw[nL.out];unfold qS;dsimp only;rw[h];simp only[if_true];rw[<-jU.out];rfl
 obtain⟨c0,AQ,yX,c3,f1,f2,f3⟩:=F0.cells;have Hr:=ay hr;have Hs:=ay hs;have Htq:=ay Ml;have Heq:=ay pW;have SC:=ay hf.tl;have Sh:=ay hf.el;have Hf:=ay hf;have HB:=ay hB;have Ss:=ay LP;clear hr hs Mk Lw Ml pW hf hB LP Vw E3 pX
 go_enter func7,ntmps7
 go_wp2_with fail
 refine c1.mono ?_;rintro e W1 ⟨rfl,ag⟩;have F1:=F0.call ag;clear c0 AQ yX c3 f1 f2 f3 ai c1 F0 ag;have c2:=DB ⟨L,B,C,S,n⟩ W1;rw[wv]at c2;dsimp only at c2;obtain⟨c0,c1,yX,c3,f1,f2,f3⟩:=F1.cells
 go_wp2_with fail
 refine c2.mono ?_;rintro e W2 ⟨rfl,ae⟩;have F2:=F1.call ae;clear c0 c1 yX c3 f1 f2 f3 c2 F1 ae wv;have Ae:=ay F2;obtain⟨c0,c1,c2,c3,f1,f2,f3⟩:=F2.cells;have hSd:decide (S>=(d.base.length:Int))=false:=decide_eq_false (by omega);clear F2;go_wp2;clear c0 c1 c2 c3 f1 f2 f3 hSd
 go_loopw [6,7] (λqv Tg wr=>∃b:Nat,n<=b/\b<=B.size+1/\Tg=zb .i64 b/\qv=zb .i64 (st (b-1))/\zj (Fo w 41 32 32 35 #[.slice ao rs.length rc,cv,zb .i64 d.width,.slice ba d.base.length bc,fv,zh (zc ⟨tb,FL,ze⟩) d.tag.length tcp,zh (zc ⟨eb,eo,ze⟩) d.fin.length HU,nv,kv] #[zb .i64 L,.string B,.bool C,zb .i64 S,zb .i64 n] #[zb .i64 0,.string ⟨#[]⟩,.bool false,zb .i64 0,zb .i64 0] #[zb .i64 0,zb .i64 0,zb .i64 0,zb .i64 0,zh ze 0 0] wr)/\zj (∀j,n<=j->j<b->nm j=-1))
  (λ_ Tg _=>B.size+1-(intOf Tg).toNat)
 case atStart=>exact⟨n,aj _,by omega,rfl,by rw[Kq.out _ (by omega)],Ae,λj h1 h2=>by omega⟩
 case round=>
  clear Ae;obtain⟨b,iV,iU,rfl,rfl,HF,sR⟩:=hrel;obtain⟨V,hV⟩:∃V,V=wr:=⟨_,rfl⟩;subst hV;have fP:prog.follows .mixedOrders=true:=by kernel_rfl
  by_cases uO:b<=B.size
  ·have uK:decide ((b:Int)<=(B.size:Int))=true:=decide_eq_true (by omega);obtain⟨c0,c1,c2,c3,f1,f2,f3⟩:=HF.out.cells
   go_upto_region 7 with fail
   go_cut [44] from 41 to 44 (λv wx=>v=.bool (decide (n<b))/\wx=V)
   case first=>
    go_wp2
    go_meet
    exact⟨rfl,rfl⟩
   obtain⟨rfl,uV⟩:=hcut;subst uV
   rename_i K hK
   refine hK _ _ ?_;clear hK K;obtain⟨V,hV⟩:∃V,V=wc:=⟨_,rfl⟩;subst hV
   go_cut [6] from 44 to 54 (λv wx=>v=zb .i64 (st b)/\zj (Fo w 41 32 32 35 #[.slice ao rs.length rc,cv,zb .i64 d.width,.slice ba d.base.length bc,fv,zh (zc ⟨tb,FL,ze⟩) d.tag.length tcp,zh (zc ⟨eb,eo,ze⟩) d.fin.length HU,nv,kv] #[zb .i64 L,.string B,.bool C,zb .i64 S,zb .i64 n] #[zb .i64 0,.string ⟨#[]⟩,.bool false,zb .i64 0,zb .i64 0] #[zb .i64 0,zb .i64 0,zb .i64 0,zb .i64 0,zh ze 0 0] wx))
   case first=>
    by_cases Ue:b=n
    ·have pU:decide (n<b)=false:=decide_eq_false (by omega);have e1:st (b-1)=st b:=by have:=Kq.out (b-1) (by omega);have:=Kq.out b (by omega);omega
     rw[e1];go_wp2
     go_meet
     exact⟨rfl,HF⟩
    ·have pU:decide (n<b)=true:=decide_eq_true (by omega);obtain⟨p,hp⟩:∃p,b-1=p:=⟨_,rfl⟩;have hpb:(b:Int)-1=(p:Int):=by omega
     have wm:p<B.size:=by omega
     have kB:(p:Int)<(B.size:Int):=by omega
     have mR:(0:Int)<=(p:Int):=by omega
     have vD:zj (((st b:Nat):Int)=qp d (st p) (B[p]'wm).toNat):=by
      have:=SA.out p (by omega) wm;rw[show p+1=b from by omega]at this;exact this
     have hc:(B[p]'wm).toNat<256:=(B[p]'wm).toNat_lt;have hgo:=λnq:Nat=>zs7 cv _ fv _ _ nv kv d (st p) (B[p]'wm).toNat (V.drewN nq) (Hs.out.below (below_drewN HF.out.below nq)) Hf.out (GW.out p) hc
     rw[hp]
     go_upto_region 8 with fail
     refine yj 9 (λw'=>∃nq,w'=V.drewN nq) fP ⟨1,rfl⟩ (by decide) (by kernel_rfl) ?_;intro os bW;simp only[nH,ue]at bW;subst bW
     repeat (go_big_quiet_step (fail))
     refine wpQuiet_nil ?_;rintro w' ⟨nq,rfl⟩ r' bV;simp only[wV,wW]at bV;subst bV
     go_wp2_with fail
     refine(hgo nq).mono ?_;rintro e W3 ⟨rfl,aG⟩;have GI:=ay (HF.out.call ((below_drewN (Below.refl V.heap.size V) nq).trans aG));clear hgo c0 c1 c2 c3 f1 f2 f3;go_wp2
     go_meet
     exact⟨by rw[vD.out],GI⟩
   case rest=>
    obtain⟨rfl,JY⟩:=hcut;clear HF c0 c1 c2 c3 f1 f2 f3;have dK:=JY.out.below;have da:(0:Int)<=(st b:Int):=by omega
    have cO:(st b:Int)<(d.tag.length:Int):=by have:=GW.out b;have:=SC.out;omega
    have uM:(st b:Int)<(d.fin.length:Int):=by have:=GW.out b;have:=Sh.out;omega
    have ct:wc.cell? ⟨tb,FL+st b,ze⟩=zc (zb .i64 (d.tag.getD (st b) 0)):=(dK.cell (by exact mZ)).trans (Htq.out (st b) (by omega));have ce:wc.cell? ⟨eb,eo+st b,ze⟩=zc (zb .i64 (d.fin.getD (st b) 0)):=(dK.cell (by exact Lx)).trans (Heq.out (st b) (by omega));obtain⟨c0,c1,c2,c3,f1,f2,f3⟩:=JY.out.cells;obtain⟨V4,TZ⟩:∃V4,V4=wc:=⟨_,rfl⟩;subst TZ
    rename_i K hK
    refine hK _ _ ?_;clear hK K
    go_upto_region 10 with fail
    go_cut [69] from 61 to 69 (λv wx=>v=.bool (C&&b==B.size)/\wx=V4)
    case first=>
     have Hq:zj (((b:Int)==(B.size:Int))=(b==B.size)):=by
      show _=_
      by_cases h:b=B.size
      ·subst h;simp
      ·have:((b:Int)==(B.size:Int))=false:=by simp;omega
       rw[this];simp;omega
     cases C
     ·go_wp2
      go_meet
      exact⟨rfl,rfl⟩
     ·go_wp2
      go_meet
      exact⟨by first|rfl|(rw[Hq.out];rfl),rfl⟩
    obtain⟨rfl,uV⟩:=hcut;subst uV
    rename_i K hK
    refine hK _ _ ?_;clear hK K;obtain⟨V4,TZ⟩:∃V4,V4=wc:=⟨_,rfl⟩;subst TZ
    go_cut [8] from 69 to 75 (λv wx=>v=zb .i64 (nm b)/\wx=V4)
    case first=>
     cases nV:(C&&b==B.size)
     ·have E1:=ay (Hnt.out b nV);go_wp2
      go_meet
      exact⟨by rw[E1.out,bP],rfl⟩
     ·have E1:=ay (Hnf.out b nV);go_wp2
      go_meet
      exact⟨by rw[E1.out,bP],rfl⟩
    case rest=>
     obtain⟨rfl,uV⟩:=hcut;subst uV
     rename_i K hK
     refine hK _ _ ?_;clear hK K;clear ct ce
     by_cases ky:nm b<0
     ·have Lu:decide (nm b<0)=true:=decide_eq_true ky;have RU:zj (∀j,n<=j->j<b+1->nm j=-1):=λj h1 h2=>by
       by_cases e:j=b
       ·subst e;have:=(Kk.out j).1;omega
       ·exact sR.out j h1 (by omega)
      clear ky;go_wp2
      go_roundw
      case rel=>exact⟨b+1,by omega,by omega,by go_num,by rw[D8],JY,RU⟩
      case measure=>simp[intOf];omega
     ·obtain⟨i,hi⟩:∃i:Nat,nm b=i:=⟨(nm b).toNat,by omega⟩;have jm:i<rs.length:=by have:=(Kk.out b).2;omega
      have Hi:=ay hi;rw[hi];clear hi ky;obtain⟨jD,xX,hv',Mb,wo⟩:=Hr.out;cases hv';obtain⟨rb,ro,rv,rd,rfl,gD,kX,k0,k1,wu⟩:=wo.elem dK jm;obtain⟨bao,bcp,rfl,xB,qG⟩:=wu;have za:eh lo w (.slice bao rd.branches.length bcp) rd.branches:=⟨bao,bcp,rfl,xB,qG⟩;have Vp:Small rd.branches:=by have:=hsm.2 i jm;rw[gD.out]at this;exact this
      have fE:iK rd=true:=by
       have h1:=Ss.out;simp only[lu,de]at h1;exact iQ.1 h1.1.2 rd (by rw[<-gD.out];simp[List.getD,jm])
      obtain⟨G,hG,OZ⟩:∃G:Nat,rd.di=G/\G<=500:=by
       unfold iK gC at fE;simp only[de,lx]at fE;exact⟨rd.di.toNat,by omega,by omega⟩
      have HG:=ay hG;rw[hG]at k1;have j9:(0:Int)<=(i:Int):=by omega
      have rY:(i:Int)<(rs.length:Int):=by omega
      have Lu:decide ((i:Int)<0)=false:=decide_eq_false (by omega);obtain⟨V5,Pa⟩:∃V5,wc.alloc (zg #[zb .i64 1,zb .i64 i,zb .i64 (-1),zb .i64 b,zh ze 0 0] 35)=V5:=⟨_,rfl⟩;have gG:zk wc.heap.size wc V5:=by rw[<-Pa];exact aw
      have xV:V5.heap[wc.heap.size]?=zc (zg #[zb .i64 1,zb .i64 i,zb .i64 (-1),zb .i64 b,zh ze 0 0] 35 (0,0)):=by rw[<-Pa];exact aI _ _
      have F5:=JY.out.call gG;have hno:=zmw (.slice bao rd.branches.length bcp) G (-1) (-1) V5 OZ (wc.heap.size+1) (JK xV);have l0:V5.cell? ⟨rb,ro+i*2,ze⟩=_:=(gG.cell (p:=⟨rb,ro+i*2,ze⟩) (bA kX dK.size)).trans k0;have l1:V5.cell? ⟨rb,ro+i*2+1,ze⟩=_:=(gG.cell (p:=⟨rb,ro+i*2+1,ze⟩) (bA kX dK.size)).trans k1;have JZ:=ay F5;have Bi:=JY.out.size;have Hbc:=ay qG;have du:=ay za;have zys:zj (∀W,zk w.heap.size w W->W.cell? ⟨rb,ro+i*2,ze⟩=zc (.slice bao rd.branches.length bcp)/\W.cell? ⟨rb,ro+i*2+1,ze⟩=zc (zb .i64 G)):=λW hb=>by
       obtain⟨zN,ro',yc,rd',e1,zyr,_,m0,m1,_⟩:=wo.elem hb jm;cases e1;have e2:rd'=rd:=by rw[<-gD.out,<-zyr.out]
       subst e2;obtain⟨_,_,_,n0,n1,_⟩:=wo.elem (Below.refl _ _) jm;have z0:=(hb.cell (p:=⟨rb,ro+i*2,ze⟩) kX);have y0:=(dK.cell (p:=⟨rb,ro+i*2,ze⟩) kX);have z1:=(hb.cell (p:=⟨rb,ro+i*2+1,ze⟩) kX);have y1:=(dK.cell (p:=⟨rb,ro+i*2+1,ze⟩) kX);exact⟨z0.trans (y0.symm.trans k0),z1.trans (y1.symm.trans k1)⟩
      obtain⟨g9,Hg9⟩:∃g9,zj (wc.heap.size=g9):=⟨_,rfl⟩;obtain⟨d0,d1,d2,d3,e1,e2,e3⟩:=JZ.out.cells;have Zo:=ay Pa;clear c0 c1 c2 c3 f1 f2 f3 wo qG za hG fE F5 k0 k1 Pa
      go_upto_region 14 with fail
      rw[Zo.out];clear Zo
      go_wp2_with fail
      refine hno.mono ?_;rintro e W6 ⟨gs,cap,rfl,oh,ew⟩;have x6:=ck xV ew;have q4:=cT _ _ 4 _ _ x6;obtain⟨q0,q1,q2,q3,q5⟩:=ja x6;have FI:Fi w #[zh (zc ⟨rb,ro,ze⟩) rs.length rc,cv,zb .i64 d.width,.slice ba d.base.length bc,fv,zh (zc ⟨tb,FL,ze⟩) d.tag.length tcp,zh (zc ⟨eb,eo,ze⟩) d.fin.length HU,nv,kv] #[zb .i64 L,.string B,.bool C,zb .i64 S,zb .i64 n] wc.heap.size (zc ⟨gs,0,ze⟩) (G+1) cap i (-1) b (gB (-1,-1) G) (W6.setCell ⟨wc.heap.size,4,ze⟩ (zh (zc ⟨gs,0,ze⟩) (G+1) cap)):=Fi.row (JZ.out.call ew) x6 Bi (by rw[DD];exact oh);have rq:=ay FI;obtain⟨W7,iT⟩:∃W7,W6.setCell ⟨wc.heap.size,4,ze⟩ (zh (zc ⟨gs,0,ze⟩) (G+1) cap)=W7:=⟨_,rfl⟩;rw[iT]at rq;obtain⟨m,Hm⟩:∃m,zj (G+1=m):=⟨_,rfl⟩;rw[Hm.out]at rq iT ⊢;have hGm:(G:Int)+1=(m:Int):=by have:=Hm.out;omega
      clear hno d0 d1 d2 d3 e1 e2 e3 oh FI l0 l1 x6
      go_upto_region 15 with fail
      clear iT q0 q1 q2 q3 q4 q5;rw[Hg9.out]at rq ⊢;go_wp2;obtain⟨W9,Le⟩:∃W9,W9=W7:=⟨_,rfl⟩;subst Le
      go_loopw [10] (λav wr=>∃(k:Nat) (sa:Int),k<=b+1/\av=zb .i64 ((k:Int)-1)/\zj (Fi w #[zh (zc ⟨rb,ro,ze⟩) rs.length rc,cv,zb .i64 d.width,.slice ba d.base.length bc,fv,zh (zc ⟨tb,FL,ze⟩) d.tag.length tcp,zh (zc ⟨eb,eo,ze⟩) d.fin.length HU,nv,kv] #[zb .i64 L,.string B,.bool C,zb .i64 S,zb .i64 n] g9 (zc ⟨gs,0,ze⟩) m cap i sa b (gB (-1,-1) G) wr)/\zj (xn rd B b C k sa))
       (λav _=>(intOf av+1).toNat)
      case atStart=>exact⟨b+1,-1,aj _,by rw[show (((b+1:Nat):Int)-1)=(b:Int) from by omega],rq,.inl ⟨rfl,λj h1 h2=>by omega⟩⟩
      case round=>
       clear rq;obtain⟨k,sa,hk,rfl,rq,J5⟩:=hrel;obtain⟨d0,d1,d2,d3,e1,e2,e3⟩:=rq.out.fo.cells;have aD:=rq.out.fo.below;obtain⟨l0,l1⟩:=zys.out wr aD
       by_cases gZ:k=0
       ·have R5:zj (DT rd B b C sa):=by
         have:=J5.out;rw[gZ]at this;exact this.done
        rw[show ((k:Int)-1)=-1 from by omega];obtain⟨y0,y1,y2,y3,y4⟩:=ja rq.out.bx;obtain⟨W9,Le⟩:∃W9,W9=wr:=⟨_,rfl⟩;subst Le;clear J5 gZ hk
        go_upto_region 20 with fail
        go_cut [110] from 108 to 110 (λv wx=>v=.bool (decide (0<=sa))/\wx=W9)
        case first=>
         go_wp2
         go_meet
         exact⟨by first|rfl|simp,rfl⟩
        obtain⟨rfl,uV⟩:=hcut;subst uV
        rename_i K hK
        refine hK _ _ ?_;clear hK K;obtain⟨W9,Le⟩:∃W9,W9=wc:=⟨_,rfl⟩;subst Le
        go_cut [] from 110 to 124 (λwx=>∃(so:Option Addr) (m cap:Nat) (sp:List (Int×Int)),zj (Fi w #[zh (zc ⟨rb,ro,ze⟩) rs.length rc,cv,zb .i64 d.width,.slice ba d.base.length bc,fv,zh (zc ⟨tb,FL,ze⟩) d.tag.length tcp,zh (zc ⟨eb,eo,ze⟩) d.fin.length HU,nv,kv] #[zb .i64 L,.string B,.bool C,zb .i64 S,zb .i64 n] g9 so m cap i sa b sp wx)/\zj (DR rd B sa b C sp))
        case first=>
         rcases R5.out with ⟨rfl,-⟩|⟨j,rfl,hjb,UE,-⟩
         ·have J6:zj (DR rd B (-1) b C (gB (-1,-1) G)):=.inl ⟨rfl,by rw[HG.out];rfl⟩;go_wp2
          go_meet
          exact⟨_,_,_,_,rq,J6⟩
         ·obtain⟨r,hr⟩:=zou rd.di rd.branches B (j:Int) (b:Int) C;have Bg:=λW (hb:zk w.heap.size w W)=>zhA rd.di (.slice bao rd.branches.length bcp) rd.branches B j b C r W (du.out.below hb) Vp hr
          rw[HG.out]at Bg;have J6:zj (DR rd B j b C r):=.inr ⟨by omega,hr⟩;have hdj:decide ((0:Int)<=(j:Int))=true:=decide_eq_true (by omega);have Hcp:=ay Bg;clear Bg R5
          go_upto_region 21 with fail
          refine yj 12 (λw'=>∃nq,w'=W9.drewN nq) fP ⟨1,rfl⟩ (by decide) (by kernel_rfl) ?_;intro os bW;simp only[nH,ue]at bW;subst bW
          repeat (go_big_quiet_step (fail))
          refine wpQuiet_nil ?_;rintro w' ⟨nq,rfl⟩ r' bV;simp only[wV,wW]at bV;subst bV;have NW:=ay (rq.out.call (below_drewN (Below.refl W9.heap.size W9) nq));have hcq:=Hcp.out (W9.drewN nq) NW.out.fo.below;clear d0 d1 d2 d3 e1 e2 e3 l0 l1 y0 y1 y2 y3 y4 aD
          go_wp2_with fail
          refine hcq.mono ?_;rintro e W8 ⟨v8,rfl,lN,eY⟩;obtain⟨so8,m8,im,rfl⟩:∃so m cap,v8=.slice so m cap:=by
           rcases lN.2 with ⟨e,_⟩|⟨g,c,_,e,_⟩
           ·exact⟨_,_,_,e⟩
           ·exact⟨_,_,_,e⟩
          have vB:=NW.out.call eY;have q4:=cT _ _ 4 _ _ vB.bx;obtain⟨y0,y1,y2,y3,y4⟩:=ja vB.bx;have RN:=ay (Fi.row vB.fo vB.bx vB.lo (ny lN (JK NW.out.bx)));clear lN vB NW rq hcq;go_wp2
          go_meet
          exact⟨_,_,_,_,RN,J6⟩
        case rest=>
         obtain⟨so,m1,tq,sp,GJ,J6⟩:=hcut
         rename_i K hK
         refine hK _ _ ?_;clear hK K rq d0 d1 d2 d3 e1 e2 e3 l0 l1 y0 y1 y2 y3 y4 aD;obtain⟨d0,d1,d2,d3,e1,e2,e3⟩:=GJ.out.fo.cells;obtain⟨y0,y1,y2,y3,y4⟩:=ja GJ.out.bx;have af:(0:Int)<=(b:Int):=by omega
         have ag:(b:Int)<=(B.size:Int):=by omega
         have hl:=GJ.out.lo;have n1:g9≠w.heap.size+1+1:=by omega
         have n2:w.heap.size+1+1≠g9:=by omega
         go_upto_region 22 with fail
         go_region
         go_wp2;refine bh (v:=.tuple #[zl #[zb .i64 L,.string (B.extract b B.size),.bool C,zb .i64 0,zb .i64 0],zl #[zb .i64 1,zb .i64 i,zb .i64 sa,zb .i64 b,.slice so m1 tq]]) (by simp[results,results7,go_sem,d2,d3]) rfl ?_;refine⟨⟨L,B.extract b B.size,C,0,0⟩,⟨1,i,sa,b,sp⟩,.inr (.inl ⟨HB.out,b,by dsimp only;omega,uO,λj h1 h2=>?_,?_,sa,sp,?_,?_,rfl,?_⟩),.slice so m1 tq,rfl,?_,?_⟩
         ·rw[<-nL.out];exact sR.out j (by dsimp only at h1;omega) h2
         ·rw[<-nL.out,Hi.out];omega
         ·rw[<-nL.out,Hi.out,sM,gD.out];exact R5.out
         ·rw[<-nL.out,Hi.out,sM,gD.out];exact J6.out
         ·rw[<-nL.out,Hi.out]
         ·refine zrL (ny (gR GJ.out.own λk e=>?_) (show w.heap.size<=g9+1 by omega));have hk:=zkc GJ.out.own e;exact Ro (by omega) (by omega) _ _ _ _ _ _ _ _ _ _
         ·refine Below.drew ?_
          iterate 10 refine Below.setCell ?_ (by simp<;>omega) _
          exact GJ.out.fo.below
       ·obtain⟨p,rfl⟩:∃p,k=p+1:=⟨k-1,by omega⟩;rw[show (((p+1:Nat):Int)-1)=(p:Int) from by omega];have mR:decide ((p:Int)>=0)=true:=decide_eq_true (by omega);have PM:=λnq:Nat=>zlR (G:Int) (.slice bao rd.branches.length bcp) rd.branches B p b C (wr.drewN nq) (du.out.below (below_drewN aD nq)) Vp
        rw[<-HG.out]at PM;have HSP:zj (∀q:Bool,(q=true↔sE rd.di rd.branches B p b C)->q=true->sE rd.di rd.branches B p b C):=λq h1 h2=>h1.1 h2
        go_upto_region 18 with fail
        refine yj 11 (λw'=>∃nq,w'=wr.drewN nq) fP ⟨1,rfl⟩ (by decide) (by kernel_rfl) ?_;intro os bW;simp only[nH,ue]at bW;subst bW
        repeat (go_big_quiet_step (fail))
        refine wpQuiet_nil ?_;rintro w' ⟨nq,rfl⟩ r' bV;simp only[wV,wW]at bV;subst bV;rw[HG.out]at PM
        go_wp2_with fail
        refine(PM nq).mono ?_;rintro e W8 ⟨q,rfl,nW,eY⟩;have vB:=ay (rq.out.call ((below_drewN (Below.refl wr.heap.size wr) nq).trans eY));clear PM d0 d1 d2 d3 e1 e2 e3 l0 l1 rq aD;cases q
        ·have eC:zj (xn rd B b C p sa):=J5.out.no (by rw[HG.out];exact λh=>by have:=nW.2 h;cases this);clear nW J5;go_wp2
         go_roundw
         case rel=>exact⟨p,sa,by omega,by go_num,vB,eC⟩
         case measure=>simp[intOf]
        ·have eC:zj (xn rd B b C p p):=xn.yes (by omega) (by rw[HG.out];exact nW.1 rfl);have q2:=cT _ _ 2 _ _ vB.out.bx;obtain⟨y0,y1,y2,y3,y4⟩:=ja vB.out.bx;have RN:=ay (vB.out.put p);clear nW J5 vB;go_wp2
         go_roundw
         case rel=>exact⟨p,p,by omega,by go_num,RN,eC⟩
         case measure=>simp[intOf]
  ·have xA:b=B.size+1:=by omega
   have uK:decide ((b:Int)<=(B.size:Int))=false:=decide_eq_false (by omega);have e1:st (b-1)=st B.size:=by rw[xA,D8]
   rw[e1];obtain⟨c0,c1,c2,c3,f1,f2,f3⟩:=HF.out.cells
   go_upto_region 23 with fail
   cases C
   ·go_wp2;refine bh (v:=.tuple #[zl #[zb .i64 L,.string B,.bool false,zb .i64 (st B.size),zb .i64 B.size],zl #[zb .i64 2,zb .i64 0,zb .i64 0,zb .i64 0,zh ze 0 0]]) (by simp[results,results7,go_sem,c2,c3]) rfl ?_;refine⟨⟨L,B,false,st B.size,B.size⟩,⟨2,0,0,0,[]⟩,.inr (.inr ⟨HB.out,λj h1 h2=>?_,?_,rfl⟩),zh ze 0 0,rfl,⟨rfl,.inl ⟨rfl,rfl⟩⟩,?_⟩
    ·rw[<-nL.out];exact sR.out j (by dsimp only at h1;omega) (by dsimp only at h2;omega)
    ·rw[jU.out]
    ·iterate 12 refine Below.setCell ?_ (by simp<;>omega) _
     exact HF.out.below
   ·go_wp2;refine bh (v:=.tuple #[zl #[zb .i64 L,.string B,.bool true,zb .i64 (st B.size),zb .i64 B.size],zl #[zb .i64 3,zb .i64 0,zb .i64 0,zb .i64 0,zh ze 0 0]]) (by simp[results,results7,go_sem,c2,c3]) rfl ?_;refine⟨⟨L,B,true,st B.size,B.size⟩,⟨3,0,0,0,[]⟩,.inr (.inr ⟨HB.out,λj h1 h2=>?_,?_,rfl⟩),zh ze 0 0,rfl,⟨rfl,.inl ⟨rfl,rfl⟩⟩,?_⟩
    ·rw[<-nL.out];exact sR.out j (by dsimp only at h1;omega) (by dsimp only at h2;omega)
    ·rw[jU.out]
    ·iterate 12 refine Below.setCell ?_ (by simp<;>omega) _
     exact HF.out.below
theorem Cf.base{w w' W:zi}{rv cv bv fv tv ev nv kv:zf}{wd:Int}{rs:List bi}{bf g cap gq:Nat}{vs:List zf}(h:Cf w' rv cv bv fv tv ev nv kv wd rs bf g cap gq vs W)(hb:zk w.heap.size w w'):Cf w rv cv bv fv tv ev nv kv wd rs bf g cap gq vs W:=
 ⟨aq hb hb.size h.bu,aW hb.size h.zv3,aW hb.size h.OR,h.box,ny h.own hb.size,h.MO,h.qs⟩
section
variable {lo:Nat}{w:zi}{ys:List (cD×zf)}{x:cD}{rs:List bi}{d:bj}{s s':cK}
def uo(y:cD×zf):List zf:=[zb .i64 y.1.kind,zb .i64 y.1.rule,zb .i64 y.1.start,zb .i64 y.1.fin,y.2]
def gE(ys:List (cD×zf)):List zf:=ys.flatMap uo
structure lR(lo:Nat)(w:zi)(ys:List (cD×zf)):Prop where
 sp:∀y,y∈ys->w.ownsRow lo 71 2 y.2 y.1.dN.length (pv y.1.dN)
 nd:ys.Pairwise λy z=>∀k,y.2.ownBlock=zc k->¬z.2.ownBlock=zc k
theorem lR.nil(lo:Nat)(w:zi):lR lo w []:=⟨λ_ h=>(by cases h),.nil⟩
theorem lR.keep{w':zi}(h:lR lo w ys)(hk:∀y,y∈ys->∀k,y.2.ownBlock=zc k->w'.heap[k]?=w.heap[k]?):lR lo w' ys:=
 ⟨λy hy=>gR (h.sp y hy) (hk y hy),h.nd⟩
theorem lR.low{cE:Nat}(h:lR lo w ys)(hl:cE<=lo):lR cE w ys:=⟨λy hy=>ny (h.sp y hy) hl,h.nd⟩
theorem lR.snoc{v:zf}(h:lR lo w ys)(ho:w.ownsRow lo 71 2 v x.dN.length (pv x.dN))(hn:∀y,y∈ys->∀k,y.2.ownBlock=zc k->¬v.ownBlock=zc k):lR lo w (ys++[(x,v)]):=by
 refine⟨λy hy=>?_,?_⟩
 ·rcases fm.1 hy with hy|hy
  ·exact h.sp y hy
  ·rw[eK]at hy;subst hy;exact ho
 ·rw[List.pairwise_append];refine⟨h.nd,List.pairwise_singleton _ _,λy hy z hz=>?_⟩;rw[eK]at hz;subst hz;exact hn y hy
def vI(rs:List bi)(d:bj)(s0:cK)(ops:List (Int×ByteArray))(k:Nat)(s:cK)(xs:List cD):Prop:=
 xs.length=k/\∃ss:Nat->cK,ss 0=s0/\ss k=s/\∀j,j<k->oU rs d (ss j) (ops.getD j gK) (ss (j+1)) (xs.getD j .zero)
theorem vI.start(rs:List bi)(d:bj)(s0:cK)(ops:List (Int×ByteArray)):vI rs d s0 ops 0 s0 []:=⟨rfl,λ_=>s0,rfl,rfl,λ_ hj=>absurd hj (cR _)⟩
theorem vI.next{s0:cK}{ops:List (Int×ByteArray)}{k:Nat}{xs:List cD}(h:vI rs d s0 ops k s xs)(hx:oU rs d s (ops.getD k gK) s' x):vI rs d s0 ops (k+1) s' (xs++[x]):=by
 obtain⟨h1,ss,h2,h3,h4⟩:=h;refine⟨by simp[h1],λj=>if j<=k then ss j else s',by simp[h2],ak (by omega),λj hj=>?_⟩
 by_cases e:j=k
 ·subst e;have e1:(xs++[x]).getD j .zero=x:=by rw[bP,sJ (by omega)];simp[h1]
  rw[e1];simp only[aj,if_true,show ¬j+1<=j from by omega,if_false,h3];exact hx
 ·have e1:(xs++[x]).getD j .zero=xs.getD j .zero:=by rw[bP,pH (by omega),bP]
  rw[e1];simp only[show j<=k from by omega,show j+1<=k from by omega,if_true];exact h4 j (by omega)
def r9(rs:List bi)(d:bj)(L:Int)(ops:List (Int×ByteArray)):Bool:=og rs d&&bF L 1 4096&&tS ops
def pM(rs:List bi)(d:bj)(L:Int)(ops:List (Int×ByteArray))(xs:List cD):Prop:=
 (r9 rs d L ops=false/\xs=[])\/(r9 rs d L ops=true/\∃s,vI rs d ⟨L,⟨#[]⟩,false,0,0⟩ ops ops.length s xs)
def ti(w:zi)(xs:List cD)(e:Ending)(w':zi):Prop:=
 ∃(ys:List (cD×zf)) (g cap:Nat),ys.map Prod.fst=xs/\e=.returned (zh (zc ⟨g,0,ze⟩) ys.length cap)/\w'.ownsRow w.heap.size 35 5 (zh (zc ⟨g,0,ze⟩) ys.length cap) ys.length (gE ys)/\lR w.heap.size w' ys/\zk w.heap.size w w'
theorem oU.iw{op:Int×ByteArray}(h:oU rs d s op s' x)(hB:iw rs d s=true):iw rs d s'=true:=by
 have hp:=BI hB;obtain⟨hl,hf,-,-,h1,h2,h3,h4,h5,h6,h7⟩:=hp;have hs:fk s=true:=by simp only[Go.Proofs.YtdimhpfiieepiaaGreatDoor.iw,de]at hB;exact hB.1.2
 have hm:og rs d=true:=by simp only[Go.Proofs.YtdimhpfiieepiaaGreatDoor.iw,de]at hB;exact hB.1.1
 have aZ:=hf.n2;have ag:=hf.n1;have key:∀(B:ByteArray) (C:Bool) (S N:Int),(B.size:Int)<=s.L->0<=N->N<=B.size->0<=S->S<d.base.length->Go.Proofs.YtdimhpfiieepiaaGreatDoor.iw rs d ⟨s.L,B,C,S,N⟩=true:=λB C S N k1 k2 k3 k4 k5=>by
  simp only[Go.Proofs.YtdimhpfiieepiaaGreatDoor.iw,hm,fk,kh,de,lx,zR];refine⟨⟨⟨⟨⟨h1,h2⟩,k1⟩,k2,k3⟩,k4,?_⟩,k5⟩;omega
 rcases h with ⟨-,rfl,-⟩|⟨-,h⟩|⟨-,rfl,-⟩
 ·unfold lq;rw[aC hs];split
  ·exact hB
  ·split
   ·exact hB
   ·rename_i hL
    exact key _ _ _ _ (by rw[ByteArray.size_append];omega) h4 (by rw[ByteArray.size_append];omega) h6 h7
 ·rcases h with ⟨h,_⟩|⟨-,b,uS,mS,-,-,a,sp,-,-,rfl,-⟩|⟨-,-,rfl,-⟩
  ·rw[hB]at h;cases h
  ·exact key _ _ _ _ (by rw[ByteArray.size_extract];omega) (Int.le_refl _) (by omega) (Int.le_refl _) (by omega)
  ·have:=JL hB s.B.size;exact key _ _ _ _ h3 (by omega) (Int.le_refl _) this.1 this.2
 ·unfold tV;rw[aC hs];exact key _ _ _ _ h3 h4 h5 h6 h7
theorem ti.none(w W:zi)(hb:zk w.heap.size w W):ti w [] (.returned (zh (zc ⟨W.heap.size,0,ze⟩) 0 0)) (W.alloc (zg #[] 35)):=
 ⟨[],W.heap.size,0,rfl,rfl,DC W 35 5 w.heap.size W.heap.size hb.size rfl,lR.nil _ _,hb.alloc hb.size _⟩
theorem Tryz.zxR:(prog.info? 35).map (λi=>(i.zero,i.size,i.bytes))=zc (zc (zl #[zb .i64 0,zb .i64 0,zb .i64 0,zb .i64 0,zh ze 0 0]),5,56):=by kernel_rfl
end
structure vH(c:rk)(rs:List bi)(d:bj)(s0:cK)(ops:List (Int×ByteArray))(k:Nat)(P:Nat->Option Nat)(Z:Nat->Nat->Prop)(s:cK)(ys:List (cD×zf))(gL cL:Nat)(W:zi):Prop where
 fi:dI c P Z W
 kI:W.heap[c.gs]?=zc (zg (eI s.L s.B s.C s.S s.N) 32 (0,0))
 run:vI rs d s0 ops k s (ys.map Prod.fst)
 nb:iw rs d s=true
 row:W.ownsRow c.WF.heap.size 35 5 (zh (zc ⟨gL,0,ze⟩) ys.length cL) ys.length (gE ys)
 lD:lR c.WF.heap.size W ys
 Qb:∀j,¬Z j gL
 V3:∀y,y∈ys->∀x,y.2.ownBlock=zc x->∀j,¬Z j x
section
variable {c:rk} {rs:List bi} {d:bj} {s0:cK} {ops:List (Int×ByteArray)} {k:Nat} {P:Nat->Option Nat} {Z:Nat->Nat->Prop} {s:cK} {ys:List (cD×zf)} {gL cL:Nat} {W W':zi}
theorem vH.len(h:vH c rs d s0 ops k P Z s ys gL cL W):ys.length=k:=by have:=h.run.1;rwa[rf]at this
theorem vH.gl(h:vH c rs d s0 ops k P Z s ys gL cL W):c.WF.heap.size<=gL/\∃ax,W.heap[gL]?=zc (zg ax 35 (0,0)):=dy h.row (by simp[Value.ownBlock])
theorem vH.below(h:vH c rs d s0 ops k P Z s ys gL cL W)(hb:zk W.heap.size W W'):vH c rs d s0 ops k P Z s ys gL cL W':=
 ⟨h.fi.below hb,ck h.kI hb,h.run,h.nb,dQ h.row hb,h.lD.keep (λy hy k hk=>hb.block k (by obtain⟨_,ax,z⟩:=dy (h.lD.sp y hy) hk;exact(ah.1 z).1)),h.Qb,h.V3⟩
theorem vH.I6(h:vH c rs d s0 ops k P Z s ys gL cL W){W2 W3:zi}{s':cK}{x:cD}{v:zf}{P':Nat->Option Nat}{Z':Nat->Nat->Prop}(hx:oU rs d s (ops.getD k gK) s' x)(hg:W2.heap[c.gs]?=zc (zg (eI s'.L s'.B s'.C s'.S s'.N) 32 (0,0)))(ho:W2.ownsRow W.heap.size 71 2 v x.dN.length (pv x.dN))(hF:dI c P' Z' W2)(tc:ap (λk=>k=c.gs\/k=c.gq\/∃j,Z j k) W W2)(hz:∀j k,Z' j k->Z j k\/W.heap.size<=k)(hv:∀j k,v.ownBlock=zc k->¬Z' j k):
  W2.ownsRow c.WF.heap.size 35 5 (zh (zc ⟨gL,0,ze⟩) ys.length cL) ys.length (gE ys)/\∀(g' cap':Nat),W3.ownsRow c.WF.heap.size 35 5 (zh (zc ⟨g',0,ze⟩) (ys.length+1) cap') (ys.length+1) (gE ys++uo (x,v))->W2.grownBy W3 (zc gL)->(zc gL=zc g'\/W2.heap.size<=g')->vH c rs d s0 ops (k+1) P' Z' s' (ys++[(x,v)]) g' cap' W3:=by
 have iJ:=h.fi.EI;have LF:=h.fi.EH;have hw:=h.fi.tc.size;have hs:=tc.size;obtain⟨ia,ax,eZ⟩:=h.gl;have Dd:=(ah.1 eZ).1;have keep:∀q,c.WF.heap.size<=q->q<W.heap.size->(∀j,¬Z j q)->W2.heap[q]?=W.heap[q]?:=λq h1 h2 h3=>tc.same q h2 (by
  rintro (e|e|⟨j,e⟩)
  ·omega
  ·omega
  ·exact h3 j e)
 have Ql:∀y,y∈ys->∀q,y.2.ownBlock=zc q->c.WF.heap.size<=q/\q<W.heap.size/\∃ax,W.heap[q]?=zc (zg ax 71 (0,0)):=λy hy q hq=>by
  obtain⟨h1,cu,z⟩:=dy (h.lD.sp y hy) hq;exact⟨h1,(ah.1 z).1,cu,z⟩
 have Wj:=gR h.row (w':=W2) (λb e=>by
  have e:gL=b:=by simpa [Value.ownBlock]using e
  subst e;exact keep gL ia Dd h.Qb)
 have zvX:lR c.WF.heap.size W2 ys:=h.lD.keep λy hy q hq=>keep q (Ql y hy q hq).1 (Ql y hy q hq).2.1 (h.V3 y hy q hq)
 refine⟨Wj,λg' cap' kH cJ dF=>?_⟩;have l2:W2.heap[gL]?=zc (zg ax 35 (0,0)):=(keep gL ia Dd h.Qb).trans eZ;have zxZ:∀j,¬Z' j gL:=λj e=>by
  rcases hz j gL e with e|e
  ·exact h.Qb j e
  ·omega
 have BG:ap (· = gL) W2 W3:=(ap.refl _ W2).grown cJ (λq e=>.inl (Option.some.inj e).symm);have dO:∀{q:Nat} {cs:Array zf} {t:zm},W2.heap[q]?=zc (zg cs t (0,0))->t≠35->W3.heap[q]?=zc (zg cs t (0,0)):=λe ht=>(BG.same _ (ah.1 e).1 (λe2=>by
  have e2:_=gL:=e2;rw[e2,l2]at e;exact ht (bL e).symm)).trans e
 have km:bJ W2 W3:=λmg f e=>dO e (by decide)
 have hF3:=hF.other BG km (λq e=>by
  have e:q=gL:=e;subst e;exact⟨.inr ia,zxZ⟩)
 have ML:W3.ownsRow W.heap.size 71 2 v x.dN.length (pv x.dN):=gR ho λb e=>by
  obtain⟨_,cu,z⟩:=dy ho e;exact(dO z (by decide)).trans z.symm
 have SZ:lR c.WF.heap.size W3 ys:=zvX.keep λy hy q hq=>by
  obtain⟨_,cu,z⟩:=dy (zvX.sp y hy) hq;exact(dO z (by decide)).trans z.symm
 refine⟨hF3,dO hg (by decide),?_,hx.iw h.nb,?_,SZ.snoc (ny ML hw) (λy hy q hq e=>?_),λj e=>?_,λy hy q hq j e=>?_⟩
 ·rw[zX];exact h.run.next hx
 ·rw[nG];have e:gE (ys++[(x,v)])=gE ys++uo (x,v):=by simp[gE]
  rw[e];exact kH
 ·have h1:=(Ql y hy q hq).2.1;have h2:=(dy ML e).1;omega
 ·rcases dF with e2|e2
  ·cases e2
   exact zxZ j e
  ·have:=(hF.nF j g' e).2;omega
 ·rcases fm.1 hy with hy|hy
  ·rcases hz j q e with e|e
   ·exact h.V3 y hy q hq j e
   ·have:=(Ql y hy q hq).2.1;omega
  ·rw[eK]at hy;subst hy;exact hv j q hq e
end
structure G3(a b m:Nat)(x t f:zf) where
 W:zi
 h0:W.cell? ⟨a,0,ze⟩=zc x
 h1:W.cell? ⟨a,1,ze⟩=zc t
 h2:W.cell? ⟨b,m,ze⟩=zc f
theorem zrH{P:Program}{o:Oper}{a:Act}{w:zi}{K:Act->zi->Prop}{Q:Exit->Act->zi->Prop}(x:Operand)(xs:Array Operand)(ats:Array zm)
  (ho:o.op=.call {callee:=.value x,args:=xs,argTypes:=ats}) (f:FuncId) (bs:Array zf) (hx:a.eval x=.func (.func f) bs #[]) (ys:Array zf) (iu:(#[]++xs.map a.eval++#[]:Array zf)=ys) (R:zf->zi->Prop) (pV:(callFunc f (bs++ys)).run P w=.ok (.enter f (bs++ys)) w)
  (hc:zp P f (bs++ys) w λe w'=>∃v,e=.returned v/\R v w') (h:∀v w',R v w'->K (a.put o.dst v) w'):Oper.wp P o a w K Q:=by
 obtain⟨dst,op,type,pos,after,guard⟩:=o;simp only at ho;subst ho;have e:execOp a.eval {dst,op:=.call {callee:=.value x,args:=xs,argTypes:=ats},type,pos,after,guard}=callFunc f (bs++xs.map a.eval++#[]):=by
  show (do let d <-Deferred.ofValue (a.eval x) (xs.map a.eval);invoke d.target d.args)=_;rw[hx]
  rfl
 unfold Oper.wp;rw[e,show bs++xs.map a.eval++#[]=bs++ys from by rw[<-iu];simp,pV,Oper.upon_enter];refine hc.mono ?_;rintro e w' ⟨v,rfl,hR⟩;exact h v w' hR
theorem zoR(xs:Array zf)(w:zi):(callFunc 54 xs).run prog w=.ok (.enter 54 xs) w:=by kernel_rfl
theorem zoS(xs:Array zf)(w:zi):(callFunc 55 xs).run prog w=.ok (.enter 55 xs) w:=by kernel_rfl
theorem zqV(xs:Array zf)(w:zi):(callFunc 56 xs).run prog w=.ok (.enter 56 xs) w:=by kernel_rfl
theorem ziC{lo:Nat}(ao:Option Addr)(rc:Nat)(cv bv fv tv ev nv kv:zf)(rs:List bi)(d:bj)(L:Int)(zJ:Option Addr)(oc:Nat)(ops:List (Int×ByteArray))(w:zi)(hr:fU lo w (.slice ao rs.length rc) rs)(hsm:pC rs)(hs:fV lo w cv bv fv tv ev nv kv d)(pw:zP d)(zd:fS w)(ho:jN lo w (.slice zJ ops.length oc) ops)(kz:∀i,i<ops.length->(ops.getD i gK).2.size<=1048576):
  zp prog 20 #[zl #[.slice ao rs.length rc,cv,zb .i64 d.width,bv,fv,tv,ev,nv,kv],zb .i64 L,.slice zJ ops.length oc] w λe w'=>∃xs,pM rs d L ops xs/\ti w xs e w':=by
 obtain⟨W0,ai⟩:∃W0,w.alloc (zg #[.slice ao rs.length rc,cv,zb .i64 d.width,bv,fv,tv,ev,nv,kv] 41)=W0:=⟨_,rfl⟩;have af:zk w.heap.size w W0:=by rw[<-ai];exact aw
 have r0:W0.heap[w.heap.size]?=zc (zg #[.slice ao rs.length rc,cv,zb .i64 d.width,bv,fv,tv,ev,nv,kv] 41 (0,0)):=by rw[<-ai];exact aI _ _
 have Br:=zlc L W0;have hm:ops.length<=9223372036854775807:=by obtain⟨_,_,_,h,_⟩:=ho;exact h
 have Hr:=ay hr;have Hs:=ay hs;have Ho:=ay ho;have Su:=ay kz;have NU:=ay zd;clear hr hs ho kz zd
 go_enter func20,ntmps20
 go_wp2_with fail
 refine Br.mono ?_;rintro e W1 ⟨rfl,ag⟩;have fu:=aq af af.size ag;have jZ:w.heap.size<=W1.heap.size:=fu.size;have r1:=ck r0 ag;clear Br ai af r0 ag;obtain⟨W2,dk⟩:∃W2,W1.alloc (zg (eI (gj L).L (gj L).B (gj L).C (gj L).S (gj L).N) 32)=W2:=⟨_,rfl⟩;have ae:zk W1.heap.size W1 W2:=by rw[<-dk];exact aw
 have g2:W2.heap[W1.heap.size]?=zc (zg (eI (gj L).L (gj L).B (gj L).C (gj L).S (gj L).N) 32 (0,0)):=by rw[<-dk];exact aI _ _
 have dg:=aq fu fu.size ae;have r2:=ck r1 ae;have cok:=YA W1.heap.size (gj L) W2 g2;have Ai:=ay dk;unfold eI at Ai;clear dk fu r1 ae
 go_wp2_with fail
 rw[Ai.out];refine cok.mono ?_;rintro e W3 ⟨rfl,aG⟩;have kn:=aq dg dg.size aG;have g3:=ck g2 aG;have r3:=ck r2 aG;have hop:=zrJ zJ ops oc W3 (Ho.out.below kn);clear cok Ai g2 r2 dg aG;have hL:fk (gj L)=bF L 1 4096:=by
  unfold gj;split
  ·rename_i h
   have h':=h;simp[bF]at h';have hz:(⟨#[]⟩:ByteArray).size=0:=rfl;simp[fk,bF,hz];omega
  ·rename_i h
   simp only[Bool.not_eq_true]at h;rw[h];rfl
 cases eV:bF L 1 4096
 ·rw[hL,eV];have HF:=ay (ti.none w W3 kn);have HQ:zj (pM rs d L ops []):=.inl ⟨by simp[r9,eV],rfl⟩;clear hop g3 r3 hL;go_wp2;go_ret;exact⟨[],HQ.out,HF.out⟩
 rw[hL,eV]
 go_wp2_with fail
 refine hop.mono ?_;rintro e W4 ⟨rfl,bE⟩;have EB:=aq kn kn.size bE;have g4:=ck g3 bE;have r4:=ck r3 bE;clear hop g3 r3 bE hL;cases uR:tS ops
 ·have HF:=ay (ti.none w W4 EB);have HQ:zj (pM rs d L ops []):=.inl ⟨by simp[r9,uR],rfl⟩;clear g4 r4;go_wp2;go_ret;exact⟨[],HQ.out,HF.out⟩
 have cf:=zj5 ao rc cv bv fv tv ev nv kv rs d W4 (Hr.out.below EB) hsm (Hs.out.below EB) pw;obtain⟨q0,q1,q2,q3,q4,q5,q6,q7,q8⟩:=jL r4
 go_wp2_with fail
 refine cf.mono ?_;rintro e W5 (⟨eQ,rfl,bD⟩|⟨eQ,bf,g,cap,gq,vs,rfl,hF⟩)
 ·have HF:=ay (ti.none w W5 (aq EB EB.size bD));have HQ:zj (pM rs d L ops []):=.inl ⟨by simp[r9,eQ],rfl⟩;clear g4 r4 q0 q1 q2 q3 q4 q5 q6 q7 q8 cf;go_wp2;go_ret;exact⟨[],HQ.out,HF.out⟩
 obtain⟨i0,IA,bI,aO,aQ⟩:=info_parts Tryz.zxR;have JZ:=ay (hF.base EB);have zBn:gq<W5.heap.size:=(ah.1 hF.qs).1;have g5:=ck g4 hF.bu;have zBt:W1.heap.size<W5.heap.size:=(ah.1 g5).1;clear cf q0 q1 q2 q3 q4 q5 q6 q7 q8 g4 r4 hF;have Jd:=zO (P:=prog) W5 #[.nilFunc,.nilFunc,.nilFunc,.nilFunc] 101 .nilFunc rfl 0 (by simp);have yd:=zO (P:=prog) W5 #[.nilFunc,.nilFunc,.nilFunc,.nilFunc] 101 (.func (.func 54) #[] #[]) rfl 1 (by simp);have st2:=zO (P:=prog) W5 #[.nilFunc,.func (.func 54) #[] #[],.nilFunc,.nilFunc] 101 (.func (.func 55) #[zn (zc ⟨bf,0,ze⟩)] #[]) rfl 2 (by simp);have st3:=zO (P:=prog) W5 #[.nilFunc,.func (.func 54) #[] #[],.func (.func 55) #[zn (zc ⟨bf,0,ze⟩)] #[],.nilFunc] 101 (.func (.func 56) #[] #[]) rfl 3 (by simp)
 go_upto_region 8 with fail
 clear Jd yd st2 st3;obtain⟨W6,lE⟩:∃W6,W5.alloc (zg #[.nilFunc,.func (.func 54) #[] #[],.func (.func 55) #[zn (zc ⟨bf,0,ze⟩)] #[],.func (.func 56) #[] #[]] 101)=W6:=⟨_,rfl⟩;have ew:zk W5.heap.size W5 W6:=by rw[<-lE];exact aw
 have p6:W6.heap[W5.heap.size]?=zc (zg #[.nilFunc,.func (.func 54) #[] #[],.func (.func 55) #[zn (zc ⟨bf,0,ze⟩)] #[],.func (.func 56) #[] #[]] 101 (0,0)):=by rw[<-lE];exact aI _ _
 have TG:=JZ.out.below ew;have g6:=ck g5 ew;have Br:gj L=⟨L,⟨#[]⟩,false,0,0⟩:=by simp[gj,eV]
 rw[Br]at g6;rw[lE];have zAe:W5.heap.size<W6.heap.size:=(ah.1 p6).1;clear lE JZ g5 ew;obtain⟨c,hc⟩:∃c:rk,c=⟨lo,w,W6,.slice ao rs.length rc,cv,bv,fv,tv,ev,nv,kv,d.width,rs,bf,g,cap,gq,W1.heap.size,vs⟩:=⟨_,rfl⟩;have iJ:c.gs=W1.heap.size:=by rw[hc]
 have Ij:c.WF=W6:=by rw[hc]
 have hFi:dI c (λ_=>ze) (λ_ _=>False) W6:=by
  subst hc;exact⟨TG,⟨_,g6⟩,jZ,NU.out,ap.refl _ _,by rw[<-zrO];exact TG.qs,λ_ _ e=>(by cases e),λ_ _ e=>(by cases e),λ_ _ e=>e.elim,λ_ _ e=>e.elim,λ_ _ _ e=>e.elim⟩
 have Ly:yn d:=by
  simp only[og,de]at eQ;exact XT eQ.1.1.2
 have iV:iw rs d ⟨L,⟨#[]⟩,false,0,0⟩=true:=by
  have h1:=eV;have h2:=Ly.n1;have hz:(⟨#[]⟩:ByteArray).size=0:=rfl;simp[bF]at h1;simp[iw,eQ,fk,bF,hz];omega
 obtain⟨W7,iT⟩:∃W7,W6.alloc (zg #[] 35)=W7:=⟨_,rfl⟩;have o8:zk W6.heap.size W6 W7:=by rw[<-iT];exact aw
 have xd:zj (vH c rs d ⟨L,⟨#[]⟩,false,0,0⟩ ops 0 (λ_=>ze) (λ_ _=>False) ⟨L,⟨#[]⟩,false,0,0⟩ [] W6.heap.size 0 W7):=
  ⟨hFi.below o8,by rw[iJ];exact ck g6 o8,vI.start _ _ _ _,iV,by rw[Ij,<-iT];exact DC W6 _ 5 _ _ (aj _) rfl,lR.nil _ _,λ_ e=>e,λ_ hy=>(by cases hy)⟩
 have Hp:zj (W7.heap[W5.heap.size]?=zc (zg #[.nilFunc,.func (.func 54) #[] #[],.func (.func 55) #[zn (zc ⟨bf,0,ze⟩)] #[],.func (.func 56) #[] #[]] 101 (0,0))):=ck p6 o8;have sZ:=ay iT;have pL:=ay uR;have Hc:=ay hc;have Hp6:=ay p6;have On:zj (r9 rs d L ops=true):=by show _=_;simp[r9,eQ,eV,uR]
 have n8:ops.length<=20000:=by
  simp only[tS,de,lx]at uR;exact uR.1
 clear TG g6 hFi iV Ly iT o8 uR hc p6 Br eQ eV EB kn
 go_upto_region 9 with fail
 rw[sZ.out];clear sZ;go_wp2
 go_loopw [11,38] (λlv iv wr=>∃(k:Nat) (P:Nat->Option Nat) (Z:Nat->Nat->Prop) (s:cK) (ys:List (cD×zf)) (gL cL:Nat),k<=ops.length/\lv=zh (zc ⟨gL,0,ze⟩) k cL/\iv=zb .i64 k/\zj (vH c rs d ⟨L,⟨#[]⟩,false,0,0⟩ ops k P Z s ys gL cL wr))
  (λ_ iv _=>ops.length-(intOf iv).toNat)
 case atStart=>exact⟨0,_,_,_,_,_,_,aR _,rfl,rfl,xd⟩
 case round=>
  clear xd Hp;obtain⟨k,P,Z,s,ys,gL,cL,hk,rfl,rfl,HI⟩:=hrel;obtain rfl:ys.length=k:=HI.out.len
  by_cases hlt:ys.length<ops.length
  ·obtain⟨zx0,oc',hv',kx,Dh⟩:=Ho.out;cases hv';have dK:zk w.heap.size w wr:=by have:=HI.out.fi.bu;rw[Hc.out]at this;exact this
   obtain⟨b,o,x,t,rfl,Hn,aZ,c0,c1⟩:=Dh.elem dK hlt;have IQ:kF (x,t)=true:=by
    have h:=pL.out;simp only[tS,de,iQ]at h;rw[<-Hn.out];exact h.2 _ (by rw[bP,dh hlt];exact kg hlt)
   simp only[kF,zR]at IQ;obtain⟨m,rfl⟩:∃m:Nat,x=m:=⟨x.toNat,by omega⟩;have pr:wr.heap[W5.heap.size]?=_:=HI.out.fi.keep (by rw[Ij];exact Hp6.out) (by decide) (by decide);have ht:t.size<=1048576:=by have:=Su.out ys.length hlt;rw[Hn.out]at this;exact this
   obtain⟨V1,uF⟩:∃V1,wr.alloc (zg #[zb .i64 m,.string t] 92)=V1:=⟨_,rfl⟩;have gG:zk wr.heap.size wr V1:=by rw[<-uF];exact aw
   have v0:V1.heap[wr.heap.size]?=zc (zg #[zb .i64 m,.string t] 92 (0,0)):=by rw[<-uF];exact aI _ _
   have pK:=ay (HI.out.below gG);have Wf:=ck pr gG;obtain⟨sL,sB,sC,sS,sN⟩:=s;obtain⟨f,bs,hcell,pV,zxr⟩:∃(f:FuncId) (bs:Array zf),(#[.nilFunc,.func (.func 54) #[] #[],.func (.func 55) #[zn (zc ⟨bf,0,ze⟩)] #[],.func (.func 56) #[] #[]]:Array zf)[m]?=zc (.func (.func f) bs #[])/\(∀(xs:Array zf) (w:zi),(callFunc f xs).run prog w=.ok (.enter f xs) w)/\
     ∀Wb,zk V1.heap.size V1 Wb->zp prog f (bs++#[zn (zc ⟨W1.heap.size,0,ze⟩),.string t]) Wb λe W'=>Eo c Z Wb rs d ⟨sL,sB,sC,sS,sN⟩ ((m:Int),t) e W':=by
    have iV:=HI.out.nb;have wv:fk ⟨sL,sB,sC,sS,sN⟩=true:=by simp only[iw,de]at iV;exact iV.1.2
    have Lr:m=1\/m=2\/m=3:=by omega
    have PQ:=λ(Wb:zi) (hb:zk V1.heap.size V1 Wb)=>(pK.out.below hb).kI
    rw[iJ]at PQ;rcases Lr with rfl|rfl|rfl
    ·exact⟨54,#[],rfl,zoR,λWb hb=>zlw rs d sL sB sC sS sN t (pK.out.below hb).fi _ iJ wv ht (PQ Wb hb)⟩
    ·obtain⟨n,rfl⟩:∃n:Nat,sN=n:=⟨sN.toNat,by obtain⟨-,-,-,-,-,-,-,h0,-⟩:=BI iV;dsimp only at h0;omega⟩;exact⟨55,#[zn (zc ⟨bf,0,ze⟩)],rfl,zoS,λWb hb=>zlx w W6 Wb bf g cap gq W1.heap.size vs ao rc cv bv fv tv ev nv kv rs d sL sB sC sS n t Hr.out hsm Hs.out iV c Hc.out (pK.out.below hb).fi (PQ Wb hb)⟩
    ·exact⟨56,#[],rfl,zqV,λWb hb=>ziU rs d sL sB sC sS sN t (pK.out.below hb).fi _ iJ wv (PQ Wb hb)⟩
   have da:(0:Int)<=(ys.length:Int):=by omega
   have cO:(ys.length:Int)<(ops.length:Int):=by omega
   have eQ:(0:Int)<=(m:Int):=by omega
   have hm4:(m:Int)<4:=by omega
   have x0:=λs:G3 wr.heap.size W5.heap.size m (zb .i64 m) (.string t) (.func (.func f) bs #[])=>s.h0
   have x1:=λs:G3 wr.heap.size W5.heap.size m (zb .i64 m) (.string t) (.func (.func f) bs #[])=>s.h1
   have x2:=λs:G3 wr.heap.size W5.heap.size m (zb .i64 m) (.string t) (.func (.func f) bs #[])=>s.h2
   have J7:=ay uF;have fP:prog.follows .mixedOrders=true:=by kernel_rfl
   have s9:=ay zxr;have Hop:=ay IQ;have iq:(∀W,V1.heap.size<=W.heap.size->W.heap[wr.heap.size]?=V1.heap[wr.heap.size]?->W.heap[W5.heap.size]?=V1.heap[W5.heap.size]?->∃s:G3 wr.heap.size W5.heap.size m (zb .i64 m) (.string t) (.func (.func f) bs #[]),W=s.W):=λW _ h1 h2=>⟨⟨W,bX (h1.trans v0) 0,bX (h1.trans v0) 1,(bX (h2.trans Wf) m).trans hcell⟩,rfl⟩
   have Sf:=ay iq;have hne:Nonempty (G3 wr.heap.size W5.heap.size m (zb .i64 m) (.string t) (.func (.func f) bs #[])):=by
    obtain⟨s,_⟩:=iq V1 (aj _) rfl rfl;exact⟨s⟩
   have kw:=(ah.1 v0).1;have hl5:=(ah.1 Wf).1;clear uF zxr iq v0 Wf pr gG Dh IQ hcell dK
   go_upto_region 12 with fail
   rw[J7.out];clear c0 c1 J7;refine zez [0,1,2,3,4,5,6] [7,8,9,10] 9 (λw'=>∃s:G3 wr.heap.size W5.heap.size m (zb .i64 m) (.string t) (.func (.func f) bs #[]),w'=s.W) (λw'=>∃s:dB V1,w'=s.W) fP (Sf.out _ (aj _) rfl rfl) ⟨⟨V1.drew,(Below.refl _ _).drew⟩,rfl⟩ (by kernel_rfl) ?_;intro os bW;simp only[jQ,jR,jT,jS]at bW;subst bW
   change wpQuiet _ _ _ _ [_,_,_,_,_,_,_] _
   repeat (go_big_quiet_step (fail))
   refine wpQuiet_nil ?_;rintro w' ⟨⟨Wb,eX⟩,hw'⟩ r' bV;replace hw':w'=Wb:=hw';subst w';simp only[jQ,jR,jT,jS,D7]at bV;subst bV;clear x0 x1 x2;have HIb:=ay (pK.out.below eX);refine qj rfl (λK5 fX=>?_);refine zrH (.tmp 46) #[.tmp 7,.tmp 48] #[81,9] (by rfl) f bs (by simp[Act.eval]) #[zn (zc ⟨W1.heap.size,0,ze⟩),.string t] (by simp[Act.eval]) (λv w'=>Eo c Z Wb rs d ⟨sL,sB,sC,sS,sN⟩ ((m:Int),t) (.returned v) w') (pV _ _) ((s9.out Wb eX).mono (by
    rintro e w1 h;obtain⟨s',x,v,P',Z',h1,he,h2⟩:=h;exact⟨_,he,s',x,v,P',Z',h1,rfl,h2⟩)) ?_
   rintro v8 W8 ⟨s',xa,v,P',Z',hR,Fu,g8,lN,hF8,nj,hz8,zxJ⟩;injection Fu with Fu
   subst Fu;obtain⟨so,sm,sc,rfl⟩:∃so sm sc,v=.slice so sm sc:=by
    rcases lN.2 with ⟨e,_⟩|⟨g,c,_,e,_⟩
    ·exact⟨_,_,_,e⟩
    ·exact⟨_,_,_,e⟩
   obtain⟨k',r',a',e',sp⟩:=xa;have hP:=λW3=>HIb.out.I6 (W3:=W3) (by rw[Hn.out];exact hR) g8 lN hF8 nj hz8 zxJ
   have Wk:=(hP W8).1;have HP:=ay (λW3=>(hP W3).2);have sV:=eX.size;have s8:=nj.size;have zxP:=HI.out.fi.nF;have hwf:=HI.out.fi.tc.size;rw[Ij]at hwf Wk;have hqc:c.gq=gq:=by rw[Hc.out]
   have n1:¬(wr.heap.size=c.gs\/wr.heap.size=c.gq\/∃j,Z j wr.heap.size):=by
    rintro (e|e|⟨j,e⟩)
    ·omega
    ·omega
    ·have:=(zxP j _ e).2;omega
   have n2:¬(W5.heap.size=c.gs\/W5.heap.size=c.gq\/∃j,Z j W5.heap.size):=by
    rintro (e|e|⟨j,e⟩)
    ·omega
    ·omega
    ·have:=(zxP j _ e).1;rw[Ij]at this;omega
   have k1:=(nj.same wr.heap.size (by omega) n1).trans (eX.block _ kw);have k2:=(nj.same W5.heap.size (by omega) n2).trans (eX.block _ hl5);refine fX _ _ (λ_=>Sf.out W8 (by omega) k1 k2) ?_;clear fX K5 hP hR g8 lN hF8 nj hz8 zxJ n1 n2;have b9:zk W8.heap.size W8 (W8.alloc (zg #[zb .i64 k',zb .i64 r',zb .i64 a',zb .i64 e',.slice so sm sc] 35)):=aw;have Zy:=ay (Sf.out (W8.alloc (zg #[zb .i64 k',zb .i64 r',zb .i64 a',zb .i64 e',.slice so sm sc] 35)) (by have:=b9.size;omega) ((b9.block _ (by omega)).trans k1) ((b9.block _ (by omega)).trans k2));clear b9 k1 k2;simp only[yV];refine qj rfl (λK6 xu=>F7 (ops:=#[]) rfl (λ_ _ h=>h) ?_)
   change wpList _ _ _ [_] _ _
   go_wp2;rw[su];refine xu _ _ (λ_=>Zy.out) ?_;clear xu K6 Zy;refine qj rfl (λK7 CT=>F7 (ops:=#[]) rfl (λ_ _ h=>h) ?_)
   change wpList _ _ _ [_] _ _
   refine wM rfl (.tmp 42) (.tmp 50) 52 rfl W8 #[zb .i64 k',zb .i64 r',zb .i64 a',zb .i64 e',.slice so sm sc] 35 rfl W8.heap.size rfl W6.heap.size i0 _ 5 56 underlying52 IA bI aO aQ (by rfl) (by omega) (zh (zc ⟨gL,0,ze⟩) ys.length cL) ys.length (gE ys) (by rfl) Wk (by rfl) (by rfl) (by intro u hu;simp at hu;rcases hu with rfl|rfl|rfl|rfl|rfl<;>rfl) (by omega) (by omega) (by omega) ?_;intro g7 bG W9 nh tu at9;have Ag:=ay (HP.out W9 g7 bG (by rw[Ij];exact nh) tu at9);clear nh tu at9 HP Wk;unfold wpList;rw[su];refine CT _ _ (λh=>by simp at h) ?_;clear CT K7;refine Qx (by simp) (λ_ _ h=>h) ?_
   change wpList _ _ _ [_] _ _
   go_wp2;rw[vl];go_wp2
   go_roundw
   case rel=>exact⟨ys.length+1,P',Z',s',_,g7,bG,by omega,rfl,by go_num,Ag⟩
   case measure=>simp[intOf];omega
  ·have bK:ys.length=ops.length:=by omega
   have HE:=ay (show ∃xs,pM rs d L ops xs/\ti w xs (.returned (zh (zc ⟨gL,0,ze⟩) ys.length cL)) wr from by
    have dK:zk w.heap.size w wr:=by have:=HI.out.fi.bu;rw[Hc.out]at this;exact this
    have mV:=HI.out.row;have zwt:=HI.out.lD;have I1:w.heap.size<=W6.heap.size:=by omega
    rw[Ij]at mV zwt;refine⟨ys.map Prod.fst,.inr ⟨On.out,s,by have:=HI.out.run;rw[bK]at this;exact this⟩,ys,gL,cL,rfl,rfl,ny mV I1,zwt.low I1,dK⟩)
   clear HI;go_wp2;go_ret;exact HE.out
theorem zlP{lo:Nat}(ao:Option Addr)(rc:Nat)(cv bv fv tv ev nv kv:zf)(rs:List bi)(d:bj)(s:cK)(w:zi)(hr:fU lo w (.slice ao rs.length rc) rs)(hsm:pC rs)(hs:fV lo w cv bv fv tv ev nv kv d):
  zp prog 7 #[zl #[.slice ao rs.length rc,cv,zb .i64 d.width,bv,fv,tv,ev,nv,kv],Qh s] w λe w'=>∃s' x,vG rs d s s' x/\SL w s' x e w':=by
 cases hB:iw rs d s
 ·exact(zkp ao rc cv bv fv tv ev nv kv rs d s w hr hsm hs hB).mono λe w' h=>⟨_,_,.inl ⟨hB,rfl,rfl⟩,h⟩
 ·obtain⟨L,B,C,S,N⟩:=s;obtain⟨-,-,-,-,-,-,-,h0,-⟩:=BI hB;obtain⟨n,rfl⟩:∃n:Nat,N=n:=⟨N.toNat,by dsimp only at h0;omega⟩;exact zlO ao rc cv bv fv tv ev nv kv rs d L B C S n w hr hsm hs hB
structure yU(w:zi)(M:Array zf)(gs:Nat)(rs:List bi)(d:bj)(s0:cK)(ops:List (Int×ByteArray))(k:Nat)(s:cK)(ys:List (cD×zf))(gL cL:Nat)(W:zi):Prop where
 bu:zk w.heap.size w W
 VV:W.heap[w.heap.size]?=zc (zg M 41 (0,0))
 kI:W.heap[gs]?=zc (zg (eI s.L s.B s.C s.S s.N) 32 (0,0))
 run:vI rs d s0 ops k s (ys.map Prod.fst)
 nb:iw rs d s=true
 row:W.ownsRow w.heap.size 35 5 (zh (zc ⟨gL,0,ze⟩) ys.length cL) ys.length (gE ys)
 lD:lR w.heap.size W ys
section
variable {w:zi} {M:Array zf} {gs:Nat} {rs:List bi} {d:bj} {s0:cK} {ops:List (Int×ByteArray)} {k:Nat} {s:cK} {ys:List (cD×zf)} {gL cL:Nat} {W W':zi}
theorem yU.len(h:yU w M gs rs d s0 ops k s ys gL cL W):ys.length=k:=by have:=h.run.1;rwa[rf]at this
theorem yU.below(h:yU w M gs rs d s0 ops k s ys gL cL W)(hb:zk W.heap.size W W'):yU w M gs rs d s0 ops k s ys gL cL W':=
 ⟨aq h.bu h.bu.size hb,ck h.VV hb,ck h.kI hb,h.run,h.nb,dQ h.row hb,h.lD.keep (λy hy k hk=>hb.block k (by obtain⟨_,ax,z⟩:=dy (h.lD.sp y hy) hk;exact(ah.1 z).1))⟩
theorem yU.I6(h:yU w M gs rs d s0 ops k s ys gL cL W)(jZ:w.heap.size<=gs){W2:zi}{s':cK}{x:cD}{v:zf}(hx:oU rs d s (ops.getD k gK) s' x)(hg:W2.heap[gs]?=zc (zg (eI s'.L s'.B s'.C s'.S s'.N) 32 (0,0)))(ho:W2.ownsRow W.heap.size 71 2 v x.dN.length (pv x.dN))(tc:ap (· = gs) W W2):
  W2.ownsRow w.heap.size 35 5 (zh (zc ⟨gL,0,ze⟩) ys.length cL) ys.length (gE ys)/\w.heap.size<=W2.heap.size/\∀(W3:zi) (g' cap':Nat),W3.ownsRow w.heap.size 35 5 (zh (zc ⟨g',0,ze⟩) (ys.length+1) cap') (ys.length+1) (gE ys++uo (x,v))->W2.grownBy W3 (zc gL)->yU w M gs rs d s0 ops (k+1) s' (ys++[(x,v)]) g' cap' W3:=by
 have hw:=h.bu.size;obtain⟨ia,ax,eZ⟩:=dy h.row (k:=gL) (by simp[Value.ownBlock]);have keep:∀{q:Nat} {cs:Array zf} {t:zm},W.heap[q]?=zc (zg cs t (0,0))->t≠32->W2.heap[q]?=zc (zg cs t (0,0)):=λe ht=>(tc.same _ (ah.1 e).1 (λe2=>by
  have e2:_=gs:=e2;rw[e2,h.kI]at e;exact ht (bL e).symm)).trans e
 have Wj:=gR h.row (w':=W2) (λb e=>by
  obtain⟨_,cu,z⟩:=dy h.row e;exact(keep z (by decide)).trans z.symm)
 have l2:=keep eZ (by decide);have b2:zk w.heap.size w W2:=⟨tc.os.trans h.bu.os,tc.tape.trans h.bu.tape,tc.output.trans h.bu.output,aW hw tc.size,λq hq=>(tc.same q (by omega) (by show ¬q=gs;omega)).trans (h.bu.block q hq)⟩;refine⟨Wj,b2.size,λW3 g' cap' kH cJ=>?_⟩;have BG:ap (· = gL) W2 W3:=(ap.refl _ W2).grown cJ (λq e=>.inl (Option.some.inj e).symm);have dO:∀{q:Nat} {cs:Array zf} {t:zm},W2.heap[q]?=zc (zg cs t (0,0))->t≠35->W3.heap[q]?=zc (zg cs t (0,0)):=λe ht=>(BG.same _ (ah.1 e).1 (λe2=>by
  have e2:_=gL:=e2;rw[e2,l2]at e;exact ht (bL e).symm)).trans e
 have ML:W3.ownsRow W.heap.size 71 2 v x.dN.length (pv x.dN):=gR ho λb e=>by
  obtain⟨_,cu,z⟩:=dy ho e;exact(dO z (by decide)).trans z.symm
 have SZ:lR w.heap.size W3 ys:=h.lD.keep λy hy q hq=>by
  obtain⟨_,cu,z⟩:=dy (h.lD.sp y hy) hq;exact(dO (keep z (by decide)) (by decide)).trans z.symm
 have s2:=b2.size;refine⟨⟨BG.os.trans b2.os,BG.tape.trans b2.tape,BG.output.trans b2.output,aW b2.size BG.size,λq hq=>(BG.same q (by omega) (by show ¬q=gL;omega)).trans (b2.block q hq)⟩,dO (keep h.VV (by decide)) (by decide),dO hg (by decide),?_,hx.iw h.nb,?_,SZ.snoc (ny ML hw) (λy hy q hq e=>?_)⟩
 ·rw[zX];exact h.run.next hx
 ·rw[nG];have e:gE (ys++[(x,v)])=gE ys++uo (x,v):=by simp[gE]
  rw[e];exact kH
 ·obtain⟨_,cu,z⟩:=dy (h.lD.sp y hy) hq;have h1:=(ah.1 z).1;have h2:=(dy ML e).1;omega
end
def Dt(X:zi)(g:Nat)(L:Int)(B:ByteArray)(C:Bool)(S N:Int):zi:=((((X.setCell ⟨g,0,ze⟩ (zb .i64 L)).setCell ⟨g,1,ze⟩ (.string B)).setCell ⟨g,2,ze⟩ (.bool C)).setCell ⟨g,3,ze⟩ (zb .i64 S)).setCell ⟨g,4,ze⟩ (zb .i64 N)
theorem Xy{W X:zi}{g:Nat}(h:ap (· = g) W X)(L:Int)(B:ByteArray)(C:Bool)(S N:Int):ap (· = g) W (Dt X g L B C S N):=((((h.put (.inl rfl)).put (.inl rfl)).put (.inl rfl)).put (.inl rfl)).put (.inl rfl)
theorem Yx{X:zi}{g:Nat}{L0:Int}{B0:ByteArray}{C0:Bool}{S0 N0:Int}(h:X.heap[g]?=zc (zg (eI L0 B0 C0 S0 N0) 32 (0,0)))(L:Int)(B:ByteArray)(C:Bool)(S N:Int):(Dt X g L B C S N).heap[g]?=zc (zg (eI L B C S N) 32 (0,0)):=by
 have h1:=dE _ _ 0 _ _ (zb .i64 L) h;have h2:=dE _ _ 1 _ _ (.string B) h1;have h3:=dE _ _ 2 _ _ (.bool C) h2;have h4:=dE _ _ 3 _ _ (zb .i64 S) h3;exact dE _ _ 4 _ _ (zb .i64 N) h4
theorem zi8{lo:Nat}(ao:Option Addr)(rc:Nat)(cv bv fv tv ev nv kv:zf)(rs:List bi)(d:bj)(L:Int)(zJ:Option Addr)(oc:Nat)(ops:List (Int×ByteArray))(w:zi)(hr:fU lo w (.slice ao rs.length rc) rs)(hsm:pC rs)(hs:fV lo w cv bv fv tv ev nv kv d)(ho:jN lo w (.slice zJ ops.length oc) ops)(kz:∀i,i<ops.length->(ops.getD i gK).2.size<=1048576):
  zp prog 18 #[zl #[.slice ao rs.length rc,cv,zb .i64 d.width,bv,fv,tv,ev,nv,kv],zb .i64 L,.slice zJ ops.length oc] w λe w'=>∃xs,pM rs d L ops xs/\ti w xs e w':=by
 obtain⟨W0,ai⟩:∃W0,w.alloc (zg #[.slice ao rs.length rc,cv,zb .i64 d.width,bv,fv,tv,ev,nv,kv] 41)=W0:=⟨_,rfl⟩;have af:zk w.heap.size w W0:=by rw[<-ai];exact aw
 have r0:W0.heap[w.heap.size]?=zc (zg #[.slice ao rs.length rc,cv,zb .i64 d.width,bv,fv,tv,ev,nv,kv] 41 (0,0)):=by rw[<-ai];exact aI _ _
 have IJ:=WR ao rc cv bv fv tv ev nv kv rs d W0 (hr.below af) hsm (hs.below af);have hm:ops.length<=9223372036854775807:=by obtain⟨_,_,_,h,_⟩:=ho;exact h
 obtain⟨i0,IA,bI,aO,aQ⟩:=info_parts Tryz.zxR;obtain⟨q0,q1,q2,q3,q4,q5,q6,q7,q8⟩:=jL r0;have Hr:=ay hr;have Hs:=ay hs;have Ho:=ay ho;have Su:=ay kz;have Z0:=ay r0;have GO:=ay af;clear hr hs ho kz r0 af
 go_enter func18,ntmps18
 go_wp2_with fail
 refine IJ.mono ?_;rintro e W1 ⟨rfl,ag⟩;have fu:=aq GO.out GO.out.size ag;have r1:=ck Z0.out ag;clear IJ ai q0 q1 q2 q3 q4 q5 q6 q7 q8 ag Z0 GO;cases eQ:og rs d
 ·have HF:=ay (ti.none w W1 fu);have HQ:zj (pM rs d L ops []):=.inl ⟨by simp[r9,eQ],rfl⟩;clear r1;go_wp2;go_ret;exact⟨[],HQ.out,HF.out⟩
 go_wp2_with fail
 refine(oz _ _ _ _).mono ?_;rintro e w' ⟨rfl,hw'⟩;subst w';cases eV:bF L 1 4096
 ·have HF:=ay (ti.none w W1 fu);have HQ:zj (pM rs d L ops []):=.inl ⟨by simp[r9,eV],rfl⟩;clear r1;go_wp2;go_ret;exact⟨[],HQ.out,HF.out⟩
 by_cases hn:ops.length<=20000
 case neg=>
  have HF:=ay (ti.none w W1 fu);have hd:decide ((ops.length:Int) > 20000)=true:=by simp;omega
  have HQ:zj (pM rs d L ops []):=.inl ⟨by simp[r9,tS,hn],rfl⟩;clear r1;go_wp2;go_ret;exact⟨[],HQ.out,HF.out⟩
 have hd:decide ((ops.length:Int) > 20000)=false:=by simp;omega
 have Z3:=ay r1;have Kd:=ay fu;clear r1 fu
 go_upto_region 3 with fail
 go_wp2
 go_loopw [33] (λiv wr=>∃k:Nat,k<=ops.length/\iv=zb .i64 k/\zj (∀j,j<k->kF (ops.getD j gK)=true)/\zk W1.heap.size W1 wr)
  (λiv _=>ops.length-(intOf iv).toNat)
 case atStart=>exact⟨0,aR _,rfl,λj hj=>absurd hj (cR _),Below.refl _ _⟩
 case round=>
  obtain⟨k,hk,rfl,HK,hb⟩:=hrel
  by_cases hlt:k<ops.length
  ·obtain⟨zx0,oc',hv',kx,Dh⟩:=Ho.out;cases hv';have dK:=aq Kd.out Kd.out.size hb;obtain⟨b,o,x,t,rfl,Hn,aZ,c0,c1⟩:=Dh.elem dK hlt;have hsz:=hb.size;have da:(0:Int)<=(k:Int):=by omega
   have cO:(k:Int)<(ops.length:Int):=by omega
   have Ch:=ay (hb.alloc hsz (zg #[zb .i64 x,.string t] 92));have Ej:=ay (dK.alloc dK.size (zg #[zb .i64 x,.string t] 92));clear Dh dK;cases pk:bF x 1 3
   ·have HQ:zj (pM rs d L ops []):=.inl ⟨by
     have:ops.all kF=false:=by
      rw[List.all_eq_false];exact⟨ops.getD k gK,by rw[bP,dh hlt];exact kg hlt,by rw[Hn.out];simp[kF,pk]⟩
     simp[r9,tS,this],rfl⟩
    have HF:=ay (ti.none w _ Ej.out);rw[World.size_alloc]at HF
    go_wp2_with (go_at_call 47;refine(oz _ _ _ _).mono ?_;rintro e w' ⟨rfl,rfl⟩;rw[pk])
    go_ret
    exact⟨[],HQ.out,HF.out⟩
   ·have Ee:zj (∀j,j<k+1->kF (ops.getD j gK)=true):=λj hj=>by
     by_cases e:j=k
     ·subst e;rw[Hn.out];exact pk
     ·exact HK.out j (by omega)
    go_wp2_with (go_at_call 47;refine(oz _ _ _ _).mono ?_;rintro e w' ⟨rfl,rfl⟩;rw[pk])
    go_roundw
    case rel=>exact⟨k+1,by omega,by go_num,Ee,Ch.out⟩
    case measure=>simp[intOf];omega
  ·have bK:k=ops.length:=by omega
   have On:zj (r9 rs d L ops=true):=by
    show _=_;have h1:ops.all kF=true:=by
     rw[iQ];intro y hy;obtain⟨j,hj,rfl⟩:=DW hy;have:=HK.out j (by omega);rwa[bP,dh hj]at this
    simp[r9,tS,h1,eQ,eV,hn]
   have Ej:=ay (aq Kd.out Kd.out.size hb);have Em:=ay (ck Z3.out hb);have Br:=zlQ L wr;have hop:gj L=⟨L,⟨#[]⟩,false,0,0⟩:=by simp[gj,eV]
   rw[hop]at Br;have Ly:yn d:=by
    have h:=eQ;simp only[og,de]at h;exact XT h.1.1.2
   have iV:iw rs d ⟨L,⟨#[]⟩,false,0,0⟩=true:=by
    have h1:=eV;have h2:=Ly.n1;have hz:(⟨#[]⟩:ByteArray).size=0:=rfl;simp[bF]at h1;simp[iw,eQ,fk,bF,hz];omega
   clear HK hb Z3 Kd hop Ly
   go_wp2_with fail
   refine Br.mono ?_;rintro e W2 ⟨rfl,ae⟩;have dg:=aq Ej.out Ej.out.size ae;have r2:=ck Em.out ae;obtain⟨W3,eN⟩:∃W3,W2.alloc (zg (eI L ⟨#[]⟩ false 0 0) 32)=W3:=⟨_,rfl⟩;have aG:zk W2.heap.size W2 W3:=by rw[<-eN];exact aw
   have g3:W3.heap[W2.heap.size]?=zc (zg (eI L ⟨#[]⟩ false 0 0) 32 (0,0)):=by rw[<-eN];exact aI _ _
   have kn:=aq dg dg.size aG;have r3:=ck r2 aG;obtain⟨W4,rL⟩:∃W4,W3.alloc (zg #[] 35)=W4:=⟨_,rfl⟩;have bE:zk W3.heap.size W3 W4:=by rw[<-rL];exact aw
   have jZ:w.heap.size<=W2.heap.size:=dg.size;have xd:zj (yU w #[.slice ao rs.length rc,cv,zb .i64 d.width,bv,fv,tv,ev,nv,kv] W2.heap.size rs d ⟨L,⟨#[]⟩,false,0,0⟩ ops 0 ⟨L,⟨#[]⟩,false,0,0⟩ [] W3.heap.size 0 W4):=
    ⟨aq kn kn.size bE,ck r3 bE,ck g3 bE,vI.start _ _ _ _,iV,by rw[<-rL];exact DC W3 _ 5 _ _ kn.size rfl,lR.nil _ _⟩
   have Aj:=ay eN;have N8:=ay rL;unfold eI at Aj;clear Br iV ae dg r2 eN aG g3 kn r3 rL bE Ej Em bK
   go_upto_region 10 with fail
   rw[Aj.out]
   go_upto_region 11 with fail
   rw[N8.out];clear Aj N8;go_wp2
   go_loopw [10,48] (λlv iv wr=>∃(k:Nat) (s:cK) (ys:List (cD×zf)) (gL cL:Nat),k<=ops.length/\lv=zh (zc ⟨gL,0,ze⟩) k cL/\iv=zb .i64 k/\zj (yU w #[.slice ao rs.length rc,cv,zb .i64 d.width,bv,fv,tv,ev,nv,kv] W2.heap.size rs d ⟨L,⟨#[]⟩,false,0,0⟩ ops k s ys gL cL wr))
    (λ_ iv _=>ops.length-(intOf iv).toNat)
   case atStart=>exact⟨0,_,_,_,_,aR _,rfl,rfl,xd⟩
   case round=>
    clear xd;obtain⟨k,s,ys,gL,cL,hk,rfl,rfl,HI⟩:=hrel;obtain rfl:ys.length=k:=HI.out.len
    by_cases hlt:ys.length<ops.length
    ·obtain⟨zx0,oc',hv',kx,Dh⟩:=Ho.out;cases hv';obtain⟨b,o,x,t,rfl,Hn,aZ,c0,c1⟩:=Dh.elem HI.out.bu hlt;have IQ:kF (x,t)=true:=by
      have h:=On.out;simp only[r9,tS,de,iQ]at h;rw[<-Hn.out];exact h.2.2 _ (by rw[bP,dh hlt];exact kg hlt)
     simp only[kF,zR]at IQ;have ht:t.size<=1048576:=by have:=Su.out ys.length hlt;rw[Hn.out]at this;exact this
     obtain⟨V1,uF⟩:∃V1,wr.alloc (zg #[zb .i64 x,.string t] 92)=V1:=⟨_,rfl⟩;have gG:zk wr.heap.size wr V1:=by rw[<-uF];exact aw
     have v0:V1.heap[wr.heap.size]?=zc (zg #[zb .i64 x,.string t] 92 (0,0)):=by rw[<-uF];exact aI _ _
     have pK:=ay (HI.out.below gG);have J7:=ay uF;have da:(0:Int)<=(ys.length:Int):=by omega
     have cO:(ys.length:Int)<(ops.length:Int):=by omega
     have hB:s.B.size<=1048576:=by obtain⟨-,-,-,-,-,h2,h3,-⟩:=BI HI.out.nb;omega
     clear uF Dh gG HI
     go_upto_region 14 with fail
     rw[J7.out];clear c0 c1 J7;have Lr:x=1\/x=2\/x=3:=by omega
     clear IQ;have y0:V1.cell? ⟨wr.heap.size,0,ze⟩=zc (zb .i64 x):=bX v0 0;have y1:V1.cell? ⟨wr.heap.size,1,ze⟩=zc (.string t):=bX v0 1;obtain⟨z0,z1,z2,z3,z4⟩:=ja pK.out.kI;rcases Lr with rfl|rfl|rfl
     ·have zq:=zlN s t V1 ht hB;have HR:zj (oU rs d s (ops.getD ys.length gK) (lq s t) (if qq s t=0 then ⟨4,0,0,0,[]⟩ else ⟨5,qq s t,0,0,[]⟩)):=by
       show oU _ _ _ _ _ _;rw[Hn.out];exact .inl ⟨rfl,rfl,rfl⟩
      generalize qq s t=fc at *;generalize lq s t=s1 at *;obtain⟨L1,B1,C1,S1,N1⟩:=s1;dsimp only at zq
      go_wp2_with fail
      refine zq.mono ?_;rintro e W5 ⟨rfl,bD⟩;have J1:=ay (pK.out.below bD);clear z0 z1 z2 z3 z4 y0 y1 zq pK v0 bD;obtain⟨W6,lE⟩:∃W6,W5.alloc (zg (eI L1 B1 C1 S1 N1) 32)=W6:=⟨_,rfl⟩;have ew:zk W5.heap.size W5 W6:=by rw[<-lE];exact aw
      have g6:W6.heap[W5.heap.size]?=zc (zg (eI L1 B1 C1 S1 N1) 32 (0,0)):=by rw[<-lE];exact aI _ _
      have jz:=ay (J1.out.below ew);have Ei:=ay lE;unfold eI at Ei;clear lE ew J1
      go_upto_region 17 with fail
      rw[Ei.out];clear Ei;obtain⟨p0,p1,p2,p3,p4⟩:=ja g6;obtain⟨z0,z1,z2,z3,z4⟩:=ja jz.out.kI;have fz:∀o,W6.frozen? ⟨W2.heap.size,o,ze⟩=false:=λo=>cT _ _ o _ _ jz.out.kI
      obtain⟨W7,iT⟩:∃W7,Dt W6 W2.heap.size L1 B1 C1 S1 N1=W7:=⟨_,rfl⟩;have qi:ap (· = W2.heap.size) W6 W7:=by rw[<-iT];exact Xy (ap.refl _ _) _ _ _ _ _
      have g7:W7.heap[W2.heap.size]?=zc (zg (eI L1 B1 C1 S1 N1) 32 (0,0)):=by rw[<-iT];exact Yx jz.out.kI _ _ _ _ _
      have sZ:=ay iT;unfold Dt at sZ;clear g6 iT
      go_upto_region 18 with fail
      rw[sZ.out];clear sZ z0 z1 z2 z3 z4 fz p0 p1 p2 p3 p4
      by_cases h0:fc=0
      ·have hr:=HR.out;rw[aC h0]at hr;obtain⟨xZ,Bw,hP⟩:=jz.out.I6 jZ hr g7 (v:=zh ze 0 0) ⟨rfl,.inl ⟨rfl,rfl⟩⟩ qi;have HP:=ay hP;have jk:=Jl 4;have zo:(fc==0)=true:=by simp[h0]
       clear hr hP qi g7 jz HR h0
       go_wp2_with (refine wM rfl (.tmp 66) (.tmp 68) 52 rfl W7 #[zb .i64 4,zb .i64 0,zb .i64 0,zb .i64 0,zh ze 0 0] 35 rfl W7.heap.size rfl w.heap.size i0 _ 5 56 underlying52 IA bI aO aQ (by rfl) (by omega) (zh (zc ⟨gL,0,ze⟩) ys.length cL) ys.length (gE ys) (by rfl) xZ (by rfl) (by rfl) (by intro u hu;simp at hu;rcases hu with rfl|rfl|rfl|rfl|rfl<;>rfl) (by omega) (by omega) Bw ?_;intro g7 bG W9 nh tu at9)
       have Ag:=ay (HP.out W9 g7 bG nh tu);clear nh tu at9 HP xZ;go_wp2
       go_roundw
       case rel=>exact⟨ys.length+1,_,_,g7,bG,by omega,rfl,by go_num,Ag⟩
       case measure=>simp[intOf];omega
      ·have hr:=HR.out;rw[ak h0]at hr;obtain⟨xZ,Bw,hP⟩:=jz.out.I6 jZ hr g7 (v:=zh ze 0 0) ⟨rfl,.inl ⟨rfl,rfl⟩⟩ qi;have HP:=ay hP;have jk:=zjq 5 fc;have zo:(fc==0)=false:=by simp[h0]
       clear hr hP qi g7 jz HR h0
       go_wp2_with (refine wM rfl (.tmp 70) (.tmp 73) 52 rfl W7 #[zb .i64 5,zb .i64 fc,zb .i64 0,zb .i64 0,zh ze 0 0] 35 rfl W7.heap.size rfl w.heap.size i0 _ 5 56 underlying52 IA bI aO aQ (by rfl) (by omega) (zh (zc ⟨gL,0,ze⟩) ys.length cL) ys.length (gE ys) (by rfl) xZ (by rfl) (by rfl) (by intro u hu;simp at hu;rcases hu with rfl|rfl|rfl|rfl|rfl<;>rfl) (by omega) (by omega) Bw ?_;intro g7 bG W9 nh tu at9)
       have Ag:=ay (HP.out W9 g7 bG nh tu);clear nh tu at9 HP xZ;go_wp2
       go_roundw
       case rel=>exact⟨ys.length+1,_,_,g7,bG,by omega,rfl,by go_num,Ag⟩
       case measure=>simp[intOf];omega
     ·have IP:=zlP ao rc cv bv fv tv ev nv kv rs d s V1 (Hr.out.below pK.out.bu) hsm (Hs.out.below pK.out.bu);unfold Qh at IP;obtain⟨q0,q1,q2,q3,q4,q5,q6,q7,q8⟩:=jL pK.out.VV
      go_wp2_with fail
      refine IP.mono ?_;rintro e W5 ⟨s1,xa,hR,v,rfl,mq,bD⟩;have J1:=ay (pK.out.below bD);obtain⟨so,sm,sc,rfl⟩:∃so sm sc,v=.slice so sm sc:=by
       rcases mq.2 with ⟨e,_⟩|⟨g,c,_,e,_⟩
       ·exact⟨_,_,_,e⟩
       ·exact⟨_,_,_,e⟩
      obtain⟨L1,B1,C1,S1,N1⟩:=s1;obtain⟨k',r',a',e',sp⟩:=xa;have Zt:=ay bD;clear z0 z1 z2 z3 z4 y0 y1 IP v0 bD q0 q1 q2 q3 q4 q5 q6 q7 q8;simp only[Qh,yV];have D6:=sO.new W5 32 35 (eI L1 B1 C1 S1 N1) #[zb .i64 k',zb .i64 r',zb .i64 a',zb .i64 e',.slice so sm sc];obtain⟨W6,lE⟩:∃W6,(W5.alloc (zg (eI L1 B1 C1 S1 N1) 32)).alloc (zg #[zb .i64 k',zb .i64 r',zb .i64 a',zb .i64 e',.slice so sm sc] 35)=W6:=⟨_,rfl⟩;rw[lE]at D6;have jz:=ay (J1.out.below D6.below);have oh:=dQ mq D6.below;have Ei:=ay lE;unfold eI at Ei;clear lE J1 mq
      go_upto_region 23 with fail
      rw[Ei.out];clear Ei;obtain⟨p0,p1,p2,p3,p4⟩:=ja D6.r0;obtain⟨z0,z1,z2,z3,z4⟩:=ja jz.out.kI;have fz:∀o,W6.frozen? ⟨W2.heap.size,o,ze⟩=false:=λo=>cT _ _ o _ _ jz.out.kI
      obtain⟨W7,iT⟩:∃W7,Dt W6 W2.heap.size L1 B1 C1 S1 N1=W7:=⟨_,rfl⟩;have qi:ap (· = W2.heap.size) W6 W7:=by rw[<-iT];exact Xy (ap.refl _ _) _ _ _ _ _
      have g7:W7.heap[W2.heap.size]?=zc (zg (eI L1 B1 C1 S1 N1) 32 (0,0)):=by rw[<-iT];exact Yx jz.out.kI _ _ _ _ _
      have x7:=(qi.same (W5.heap.size+1) (by have:=D6.size;omega) (λe=>by
       have e:W5.heap.size+1=W2.heap.size:=e;have h1:=jz.out.kI;rw[<-e,D6.r1]at h1;exact absurd (bL h1) (by decide))).trans D6.r1
      have fh:=gR oh (w':=W7) (λq e=>by
       obtain⟨_,cu,z⟩:=dy oh e;exact qi.same q (ah.1 z).1 (λe2=>by
        have e2:q=W2.heap.size:=e2;rw[e2,jz.out.kI]at z;exact absurd (bL z) (by decide)))
      have sZ:=ay iT;unfold Dt at sZ;clear iT
      go_upto_region 24 with fail
      rw[sZ.out];clear sZ z0 z1 z2 z3 z4 fz p0 p1 p2 p3 p4;obtain⟨xZ,Bw,hP⟩:=pK.out.I6 jZ (x:=⟨k',r',a',e',sp⟩) (by rw[Hn.out];exact .inr (.inl ⟨rfl,hR⟩)) g7 (v:=.slice so sm sc) fh (((ap.bR Zt.out).trans (.bR D6.below)).trans qi);have HP:=ay hP;obtain⟨p0,p1,p2,p3,p4⟩:=ja x7;clear hP qi g7 jz hR oh fh x7 D6 pK Zt
      go_wp2_with (refine wM rfl (.tmp 84) (.tmp 86) 52 rfl W7 #[zb .i64 k',zb .i64 r',zb .i64 a',zb .i64 e',.slice so sm sc] 35 rfl W7.heap.size rfl w.heap.size i0 _ 5 56 underlying52 IA bI aO aQ (by rfl) (by omega) (zh (zc ⟨gL,0,ze⟩) ys.length cL) ys.length (gE ys) (by rfl) xZ (by rfl) (by rfl) (by intro u hu;simp at hu;rcases hu with rfl|rfl|rfl|rfl|rfl<;>rfl) (by omega) (by omega) Bw ?_;intro g7 bG W9 nh tu at9)
      have Ag:=ay (HP.out W9 g7 bG nh tu);clear nh tu at9 HP xZ;go_wp2
      go_roundw
      case rel=>exact⟨ys.length+1,_,_,g7,bG,by omega,rfl,by go_num,Ag⟩
      case measure=>simp[intOf];omega
     ·have E3:=zi7 s V1;have HR:zj (oU rs d s (ops.getD ys.length gK) (tV s) ⟨6,0,0,0,[]⟩):=by
       show oU _ _ _ _ _ _;rw[Hn.out];exact .inr (.inr ⟨rfl,rfl,rfl⟩)
      generalize tV s=s1 at *;obtain⟨L1,B1,C1,S1,N1⟩:=s1;dsimp only at E3
      go_wp2_with fail
      refine E3.mono ?_;rintro e W6 ⟨rfl,bD⟩;have jz:=ay (pK.out.below bD);clear z0 z1 z2 z3 z4 y0 y1 E3 pK v0 bD;obtain⟨z0,z1,z2,z3,z4⟩:=ja jz.out.kI;have fz:∀o,W6.frozen? ⟨W2.heap.size,o,ze⟩=false:=λo=>cT _ _ o _ _ jz.out.kI
      obtain⟨W7,iT⟩:∃W7,Dt W6 W2.heap.size L1 B1 C1 S1 N1=W7:=⟨_,rfl⟩;have qi:ap (· = W2.heap.size) W6 W7:=by rw[<-iT];exact Xy (ap.refl _ _) _ _ _ _ _
      have g7:W7.heap[W2.heap.size]?=zc (zg (eI L1 B1 C1 S1 N1) 32 (0,0)):=by rw[<-iT];exact Yx jz.out.kI _ _ _ _ _
      have sZ:=ay iT;unfold Dt at sZ;clear iT
      go_upto_region 27 with fail
      rw[sZ.out];clear sZ z0 z1 z2 z3 z4 fz;obtain⟨xZ,Bw,hP⟩:=jz.out.I6 jZ HR.out g7 (v:=zh ze 0 0) ⟨rfl,.inl ⟨rfl,rfl⟩⟩ qi;have HP:=ay hP;have jk:=Jl 6;clear hP qi g7 jz HR
      go_wp2_with (refine wM rfl (.tmp 92) (.tmp 94) 52 rfl W7 #[zb .i64 6,zb .i64 0,zb .i64 0,zb .i64 0,zh ze 0 0] 35 rfl W7.heap.size rfl w.heap.size i0 _ 5 56 underlying52 IA bI aO aQ (by rfl) (by omega) (zh (zc ⟨gL,0,ze⟩) ys.length cL) ys.length (gE ys) (by rfl) xZ (by rfl) (by rfl) (by intro u hu;simp at hu;rcases hu with rfl|rfl|rfl|rfl|rfl<;>rfl) (by omega) (by omega) Bw ?_;intro g7 bG W9 nh tu at9)
      have Ag:=ay (HP.out W9 g7 bG nh tu);clear nh tu at9 HP xZ;go_wp2
      go_roundw
      case rel=>exact⟨ys.length+1,_,_,g7,bG,by omega,rfl,by go_num,Ag⟩
      case measure=>simp[intOf];omega
    ·have bK:ys.length=ops.length:=by omega
     have HE:=ay (show ∃xs,pM rs d L ops xs/\ti w xs (.returned (zh (zc ⟨gL,0,ze⟩) ys.length cL)) wr from
      ⟨ys.map Prod.fst,.inr ⟨On.out,s,by have:=HI.out.run;rw[bK]at this;exact this⟩,ys,gL,cL,rfl,rfl,HI.out.row,HI.out.lD,HI.out.bu⟩)
     clear HI;go_wp2;go_ret;exact HE.out
section
variable {rs:List bi}{d:bj}{s s1 s2:cK}{op:Int×ByteArray}{ops:List (Int×ByteArray)}{xs ys:List cD}{L:Int}
theorem zpE{x1 x2:cD}(h:oU rs d s op s1 x1)(h':oU rs d s op s2 x2):s1=s2/\x1=x2:=by
 rcases h with ⟨a,rfl,rfl⟩|⟨a,h⟩|⟨a,rfl,rfl⟩<;>rcases h' with ⟨b,rfl,rfl⟩|⟨b,h'⟩|⟨b,rfl,rfl⟩
 all_goals first|exact⟨rfl,rfl⟩|exact ztg h h'|(rw[a]at b;exact absurd b (by decide))
theorem zsb{s0:cK}{n:Nat}(h:vI rs d s0 ops n s1 xs)(h':vI rs d s0 ops n s2 ys):xs=ys:=by
 obtain⟨l1,ss,a0,-,a2⟩:=h;obtain⟨l2,tt,b0,-,b2⟩:=h';have key:∀j,j<=n->ss j=tt j:=λj=>by
  induction j with
  |zero=>exact λ_=>a0.trans b0.symm
  |succ j ih=>
   intro hj;have h1:=a2 j (by omega);have h2:=b2 j (by omega);rw[ih (by omega)]at h1;exact(zpE h1 h2).1
 apply List.ext_getElem
 ·omega
 ·intro j hj zw;have h1:=a2 j (by omega);have h2:=b2 j (by omega);rw[key j (by omega)]at h1;have h3:=(zpE h1 h2).2;rw[bP,bP,dh hj,dh zw]at h3;exact h3
theorem zp6(h:pM rs d L ops xs)(h':pM rs d L ops ys):xs=ys:=by
 rcases h with ⟨a,rfl⟩|⟨a,s,h⟩<;>rcases h' with ⟨b,rfl⟩|⟨b,t,h'⟩
 ·rfl
 ·rw[a]at b;cases b
 ·rw[a]at b;cases b
 ·exact zsb h h'
theorem zti{s':cK}{x:cD}(hn:∀{s s':cK} {x:cD},vG rs d s s' x->x.dN.length<=501)(h:oU rs d s op s' x):x.dN.length<=501:=by
 rcases h with ⟨-,-,rfl⟩|⟨-,h⟩|⟨-,-,rfl⟩
 ·split<;>simp
 ·exact hn h
 ·simp
theorem zts(hn:∀{s s':cK} {x:cD},vG rs d s s' x->x.dN.length<=501)(h:pM rs d L ops xs):xs.length<=20000/\∀x,x∈xs->x.dN.length<=501:=by
 rcases h with ⟨-,rfl⟩|⟨ho,s,l,ss,-,-,h⟩
 ·exact⟨by simp,λx hx=>(by cases hx)⟩
 ·refine⟨?_,λx hx=>?_⟩
  ·simp only[r9,tS,de,lx]at ho;omega
  ·obtain⟨j,hj,rfl⟩:=DW hx;have h1:=h j (by omega);rw[bP (l:=xs),dh hj]at h1;exact zti hn h1
end
variable {lo T b:Nat}{w W:zi}{cs:Array zf}{v:zf}
def pz:Option zf->Bool
 |some (.slice _ _ _)=>true
 |_=>false
structure eD(lo T:Nat)(w W:zi):Prop where
 os:W.os=w.os
 tape:W.tape=w.tape
 output:W.output=w.output
 size:w.heap.size<=W.heap.size
 out:∀b,b<w.heap.size->(b<lo\/T<=b)->W.heap[b]?=w.heap[b]?
 row:∀(b:Nat) (cs:Array zf) (t:zm),w.heap[b]?=zc (zg cs t (0,0))->∃fN:Array zf,W.heap[b]?=zc (zg fN t (0,0))/\fN.size=cs.size/\(∀(i:Nat),pz cs[i]?=true->fN[i]?=cs[i]?)/\∀(i:Nat),pz cs[i]?=false->pz fN[i]?=false
theorem eD.refl(lo T:Nat)(w:zi):eD lo T w w:=⟨rfl,rfl,rfl,aj _,λ_ _ _=>rfl,λ_ cs _ h=>⟨cs,h,rfl,λ_ _=>rfl,λ_ h=>h⟩⟩
theorem eD.trans{a b c:zi}(h:eD lo T a b)(k:eD lo T b c):eD lo T a c:=
 ⟨k.os.trans h.os,k.tape.trans h.tape,k.output.trans h.output,aW h.size k.size,λi hi ho=>(k.out i (bA hi h.size) ho).trans (h.out i hi ho),λi cs t e=>by
  obtain⟨cs1,e1,s1,p1,q1⟩:=h.row i cs t e;obtain⟨CH,e2,s2,p2,q2⟩:=k.row i cs1 t e1;refine⟨CH,e2,s2.trans s1,λi hi=>?_,λi hi=>q2 i (q1 i hi)⟩;have:=p1 i hi;rw[p2 i (by rw[this];exact hi),this]⟩
theorem eD.put{o:Nat}{t:zm}(hb:w.heap[b]?=zc (zg cs t (0,0)))(h1:lo<=b)(h2:b<T)(hn:pz cs[o]?=false)(u:zf)(hu:pz (zc u)=false):eD lo T w (w.setCell ⟨b,o,ze⟩ u):=by
 refine⟨rfl,rfl,rfl,by simp[World.setCell],λi hi ho=>cH _ _ _ _ (by show i≠b;omega),λi fN t' e=>?_⟩
 by_cases hib:i=b
 ·subst hib;rw[hb]at e;cases e;refine⟨_,dE w i o _ _ u hb,by simp,λj hj=>?_,λj hj=>?_⟩
  ·rw[NN]
   by_cases e:o=j
   ·subst e;rw[hn]at hj;cases hj
   ·rw[ak e]
  ·rw[NN]
   by_cases e:o=j
   ·rw[aC e];split
    ·exact hu
    ·rfl
   ·rw[ak e];exact hj
 ·exact⟨fN,(cH _ _ _ _ (by exact hib)).trans e,rfl,λ_ _=>rfl,λ_ h=>h⟩
def AA(lo T:Nat)(w:zi)(v:zf)(n:Nat):Prop:=∃ao cap,v=.slice ao n cap/\(0<n->∃(b o:Nat) (cs:Array zf),ao=zc ⟨b,o,ze⟩/\lo<=b/\b<T/\w.heap[b]?=zc (zg cs 211 (0,0))/\o+n*2<=cs.size/\∀i,i<n*2->pz cs[o+i]?=false)
def Aw(lo T:Nat)(w:zi)(v:zf)(ns:List aL):Prop:=∃ao cap,v=.slice ao ns.length cap/\(0<ns.length->∃(b o:Nat) (cs:Array zf),ao=zc ⟨b,o,ze⟩/\lo<=b/\b<T/\w.heap[b]?=zc (zg cs 149 (0,0))/\o+ns.length*5<=cs.size/\∀i,i<ns.length->(∀j,j<5->j≠1->pz cs[o+i*5+j]?=false)/\∃sv,cs[o+i*5+1]?=zc sv/\AA lo T w sv (ns.getD i .zero).set.length)
def Ac(lo T:Nat)(w:zi)(v:zf)(bs:List aV):Prop:=∃ao cap,v=.slice ao bs.length cap/\(0<bs.length->∃(b o:Nat) (cs:Array zf),ao=zc ⟨b,o,ze⟩/\lo<=b/\b<T/\w.heap[b]?=zc (zg cs 115 (0,0))/\o+bs.length*3<=cs.size/\∀i,i<bs.length->(∀j,j<2->pz cs[o+i*3+j]?=false)/\∃sv,cs[o+i*3+2]?=zc sv/\Aw lo T w sv (bs.getD i .zero).nodes)
def Cx(lo T:Nat)(w:zi)(v:zf)(rs:List bi):Prop:=∃ao cap,v=.slice ao rs.length cap/\(0<rs.length->∃(b o:Nat) (cs:Array zf),ao=zc ⟨b,o,ze⟩/\lo<=b/\b<T/\w.heap[b]?=zc (zg cs 69 (0,0))/\o+rs.length*2<=cs.size/\∀i,i<rs.length->pz cs[o+i*2+1]?=false/\∃sv,cs[o+i*2]?=zc sv/\Ac lo T w sv (rs.getD i .zero).branches)
theorem AA.mk{n:Nat}(h:AA lo T w v n)(k:eD lo T w W):AA lo T W v n:=by
 obtain⟨ao,cap,rfl,h⟩:=h;refine⟨ao,cap,rfl,λh0=>?_⟩;obtain⟨b,o,cs,rfl,h1,h2,h3,h4,h5⟩:=h h0;obtain⟨fN,e,s,p,q⟩:=k.row b cs _ h3;exact⟨b,o,fN,rfl,h1,h2,e,by omega,λi hi=>q _ (h5 i hi)⟩
theorem Aw.mk{ns:List aL}(h:Aw lo T w v ns)(k:eD lo T w W):Aw lo T W v ns:=by
 obtain⟨ao,cap,rfl,h⟩:=h;refine⟨ao,cap,rfl,λh0=>?_⟩;obtain⟨b,o,cs,rfl,h1,h2,h3,h4,h5⟩:=h h0;obtain⟨fN,e,s,p,q⟩:=k.row b cs _ h3;refine⟨b,o,fN,rfl,h1,h2,e,by omega,λi hi=>?_⟩;obtain⟨g1,sv,g2,g3⟩:=h5 i hi;have mf:pz cs[o+i*5+1]?=true:=by obtain⟨a,c,rfl,_⟩:=g3;rw[g2];rfl
 exact⟨λj hj hne=>q _ (g1 j hj hne),sv,(p _ mf).trans g2,g3.mk k⟩
theorem Ac.mk{bs:List aV}(h:Ac lo T w v bs)(k:eD lo T w W):Ac lo T W v bs:=by
 obtain⟨ao,cap,rfl,h⟩:=h;refine⟨ao,cap,rfl,λh0=>?_⟩;obtain⟨b,o,cs,rfl,h1,h2,h3,h4,h5⟩:=h h0;obtain⟨fN,e,s,p,q⟩:=k.row b cs _ h3;refine⟨b,o,fN,rfl,h1,h2,e,by omega,λi hi=>?_⟩;obtain⟨g1,sv,g2,g3⟩:=h5 i hi;have mf:pz cs[o+i*3+2]?=true:=by obtain⟨a,c,rfl,_⟩:=g3;rw[g2];rfl
 exact⟨λj hj=>q _ (g1 j hj),sv,(p _ mf).trans g2,g3.mk k⟩
theorem Rc{t:zm}(h:w.heap[b]?=zc (zg cs t (0,0))){i:Nat}(hi:i<cs.size):∃u,w.cell? ⟨b,i,ze⟩=zc u:=⟨cs[i],by rw[aM _ _ _ _ _ _ h];simp[hi]⟩
theorem ziM(v:zf)(n:Nat)(k:Int)(w:zi)(h:AA lo T w v n)(hk:0<=k/\k+2*(n:Int)<=100000000):
  zp prog 133 #[v,zb .i64 k] w λe W=>e=.returned (zb .i64 (k+2*(n:Int)))/\eD lo T w W:=by
 obtain⟨ao,cap,rfl,h⟩:=h;have gZ:=hk.1;have db:=hk.2;have H:zj _:=h;clear h hk
 go_enter func133,ntmps133
 go_wp2
 go_loopw [1,5] (λkv iv wr=>∃i:Nat,i<=n/\iv=zb .i64 i/\kv=zb .i64 (k+2*(i:Int))/\zj (eD lo T w wr)) (λ_ iv _=>n-(intOf iv).toNat)
 case atStart=>exact⟨0,aR _,rfl,by simp,eD.refl _ _ _⟩
 case round=>
  obtain⟨i,hi,rfl,rfl,HM⟩:=hrel
  by_cases hlt:i<n
  ·obtain⟨b,o,cs,rfl,h1,h2,h3,h4,h5⟩:=H.out (by omega);obtain⟨cs1,e1,s1,p1,q1⟩:=HM.out.row b cs _ h3;obtain⟨u0,c0⟩:=Rc e1 (i:=o+i*2) (by omega);have f0:=cT _ _ (o+i*2) _ _ e1;have m1:=eD.put e1 h1 h2 (q1 _ (h5 (i*2) (by omega))) (zb .i64 (k+2*(i:Int))) rfl;obtain⟨CH,e2,s2,p2,q2⟩:=m1.row b cs1 _ e1;obtain⟨u1,c1⟩:=Rc e2 (i:=o+i*2+1) (by omega);have f1:=cT _ _ (o+i*2+1) _ _ e2;have m2:=eD.put e2 h1 h2 (q2 _ (q1 _ (h5 (i*2+1) (by omega)))) (zb .i64 (k+2*(i:Int)+1)) rfl;have yJ:zj _:=HM.out.trans (m1.trans m2);have da:(0:Int)<=(i:Int):=by omega
   have cO:(i:Int)<(n:Int):=by omega
   obtain⟨AQ,zBa⟩:∃AQ,wr.cell? ⟨b,o+i*2+1,ze⟩=zc AQ:=⟨u1,by rw[World.cell?_setCell_other _ _ _ _ (by simp)]at c1;exact c1⟩;have f1':=cT _ _ (o+i*2+1) _ _ e1;obtain⟨kk,bK⟩:∃kk:Int,k+2*(i:Int)=kk:=⟨_,rfl⟩;have gH:0<=kk/\kk<=100000000:=by omega
   have zzQ:=gH.1;have zzR:=gH.2;rw[bK]at yJ ⊢;have Ck:zj _:=bK;clear m1 m2 e1 e2 p1 p2 q1 q2 s1 s2 h3 h4 h5 c1 f1 gH bK HM;go_wp2
   go_roundw
   case rel=>exact⟨i+1,by omega,by go_num,by rw[show k+2*((i+1:Nat):Int)=kk+1+1 by have:=Ck.out;omega],yJ⟩
   case measure=>simp[intOf];omega
  ·have zv:i=n:=by omega
   subst zv;go_wp2;go_ret;exact⟨rfl,HM.out⟩
end Go.Proofs.YtdimhpfiieepiaaGreatDoor
