import Derived.Test.YtdimhpfiieepiaaGreatDoorC47
namespace Go.Proofs.YtdimhpfiieepiaaGreatDoor
set_option maxHeartbeats 2000000
set_option maxRecDepth 100000
section
open Go.RowKit
attribute [local go_sem ↓] Go.wp_at_zero Go.wp_at_succ
theorem zkv{w:World}{lo k n sz:Nat}{v:Value}{e:TypeId}{xs:List Value}(h:w.ownsRow lo e sz v n xs)(hk:v.ownBlock=some k):lo<=k:=by
 rcases h.2 with ⟨h0,_⟩|⟨g',cap',cur,hv,h1,_⟩
 ·subst h0;simp[Value.ownBlock] at hk
 ·subst hv;have hk:g'=k:=by simpa [Value.ownBlock] using hk
  omega
def StK(r:zaG)(t:ByteArray)(b:Nat)(cl:Bool)(k:Nat)(a:Int):Prop:=
 (a=-1/\∀j:Nat,k<=j->j<=b->¬zeF r.groups r.branches t j b cl)\/∃j:Nat,a=j/\k<=j/\j<=b/\zeF r.groups r.branches t j b cl/\∀i:Nat,k<=i->i<j->¬zeF r.groups r.branches t i b cl
theorem StK.no{r:zaG}{t:ByteArray}{b:Nat}{cl:Bool}{k:Nat}{a:Int}(h:StK r t b cl (k+1) a)(hn:¬zeF r.groups r.branches t k b cl):StK r t b cl k a:=by
 rcases h with ⟨h1,h2⟩|⟨j,h1,h2,h3,h4,h5⟩
 ·refine .inl ⟨h1,fun j hj hb=>?_⟩
  by_cases e:j=k
  ·subst e;exact hn
  ·exact h2 j (by omega) hb
 ·refine .inr ⟨j,h1,by omega,h3,h4,fun i hi hj=>?_⟩
  by_cases e:i=k
  ·subst e;exact hn
  ·exact h5 i (by omega) hj
theorem StK.yes{r:zaG}{t:ByteArray}{b:Nat}{cl:Bool}{k:Nat}(hk:k<=b)(hn:zeF r.groups r.branches t k b cl):StK r t b cl k k:=
 .inr ⟨k,rfl,zvJ _,hk,hn,fun i h1 h2=>by omega⟩
theorem StK.done{r:zaG}{t:ByteArray}{b:Nat}{cl:Bool}{a:Int}(h:StK r t b cl 0 a):zfX r t b cl a:=by
 rcases h with ⟨h1,h2⟩|⟨j,h1,h2,h3,h4,h5⟩
 ·exact .inl ⟨h1,fun k hk=>h2 k (zvT _) hk⟩
 ·exact .inr ⟨j,h1,h3,h4,fun i hi=>h5 i (zvT _) hi⟩
theorem zj7{W:World}{b1 b2 k:Nat}(h1:k≠b1)(h2:k≠b2)(v0 v1 v2 v3 v4 u0 u1 u2 u3 u4:Value):((((((((((W.setCell ⟨b1,0,none⟩ v0).setCell ⟨b1,1,none⟩ v1).setCell ⟨b1,2,none⟩ v2).setCell ⟨b1,3,none⟩ v3).setCell ⟨b1,4,none⟩ v4).setCell ⟨b2,0,none⟩ u0).setCell ⟨b2,1,none⟩ u1).setCell ⟨b2,2,none⟩ u2).setCell ⟨b2,3,none⟩ u3).setCell ⟨b2,4,none⟩ u4).heap[k]?=W.heap[k]?:=by
 rw[zv0 _ _ _ _ h2,zv0 _ _ _ _ h2,zv0 _ _ _ _ h2,zv0 _ _ _ _ h2,zv0 _ _ _ _ h2,zv0 _ _ _ _ h1,zv0 _ _ _ _ h1,zv0 _ _ _ _ h1,zv0 _ _ _ _ h1,zv0 _ _ _ _ h1]
theorem zmZ{W:World}{B sz n:Nat}{e:TypeId}{v:Value}{xs:List Value}(h:W.ownsRow B e sz v n xs):W.drew.ownsRow B e sz v n xs:=h
structure Fi(w:World)(C0 C1:Array Value)(g9:Nat)(so:Option Addr)(m cap:Nat)(i sa b:Int)(sp:List (Int×Int))(W:World):Prop where
 fo:Fo w 41 32 32 35 C0 C1 #[.int .i64 0,.string ⟨#[]⟩,.bool false,.int .i64 0,.int .i64 0] #[.int .i64 0,.int .i64 0,.int .i64 0,.int .i64 0,.slice none 0 0] W
 bx:W.heap[g9]?=some (.cells #[.int .i64 1,.int .i64 i,.int .i64 sa,.int .i64 b,.slice so m cap] 35 (0,0))
 own:W.ownsRow (g9+1) 71 2 (.slice so m cap) sp.length (pv sp)
 lo:w.heap.size+3<g9
section
variable {w W W':World} {C0 C1:Array Value} {g9 m cap:Nat} {so:Option Addr} {i sa b:Int} {sp:List (Int×Int)}
theorem Fi.call(h:Fi w C0 C1 g9 so m cap i sa b sp W)(hb:Below W.heap.size W W'):Fi w C0 C1 g9 so m cap i sa b sp W':=
 ⟨h.fo.call hb,zag h.bx hb,zac h.own hb,h.lo⟩
theorem Fo.put9{t0 t1 t2 t3:TypeId}{C2 C3:Array Value}(h:Fo w t0 t1 t2 t3 C0 C1 C2 C3 W)(hl:w.heap.size+3<g9)(o:Nat)(u:Value):Fo w t0 t1 t2 t3 C0 C1 C2 C3 (W.setCell ⟨g9,o,none⟩ u):=
 ⟨h.below.setCell (by show w.heap.size<=g9;omega) _,(zv0 _ _ _ _ (by show w.heap.size≠g9;omega)).trans h.r0,(zv0 _ _ _ _ (by show w.heap.size+1≠g9;omega)).trans h.r1,(zv0 _ _ _ _ (by show w.heap.size+2≠g9;omega)).trans h.r2,(zv0 _ _ _ _ (by show w.heap.size+3≠g9;omega)).trans h.r3⟩
theorem zm0{v:Value}{n:Nat}{xs:List Value}{e:TypeId}{sz:Nat}(h:W.ownsRow (g9+1) e sz v n xs)(o:Nat)(u:Value):(W.setCell ⟨g9,o,none⟩ u).ownsRow (g9+1) e sz v n xs:=
 zav h fun k e=>zv0 _ _ _ _ (by have:=zkv h e;show k≠g9;omega)
theorem Fi.put(h:Fi w C0 C1 g9 so m cap i sa b sp W)(sa':Int):Fi w C0 C1 g9 so m cap i sa' b sp (W.setCell ⟨g9,2,none⟩ (.int .i64 sa')):=
 ⟨h.fo.put9 h.lo _ _,zv1 W g9 2 _ _ (.int .i64 sa') h.bx,zm0 h.own _ _,h.lo⟩
theorem Fi.row{so':Option Addr}{m' cap':Nat}{sp':List (Int×Int)}(fo:Fo w 41 32 32 35 C0 C1 #[.int .i64 0,.string ⟨#[]⟩,.bool false,.int .i64 0,.int .i64 0] #[.int .i64 0,.int .i64 0,.int .i64 0,.int .i64 0,.slice none 0 0] W)(bx:W.heap[g9]?=some (.cells #[.int .i64 1,.int .i64 i,.int .i64 sa,.int .i64 b,.slice so m cap] 35 (0,0)))(lo:w.heap.size+3<g9)(own:W.ownsRow (g9+1) 71 2 (.slice so' m' cap') sp'.length (pv sp')):Fi w C0 C1 g9 so' m' cap' i sa b sp' (W.setCell ⟨g9,4,none⟩ (.slice so' m' cap')):=
 ⟨fo.put9 lo _ _,zv1 W g9 4 _ _ (.slice so' m' cap') bx,zm0 own _ _,lo⟩
end
theorem zmd{lo:Nat}(ao:Option Addr)(rc:Nat)(cv bv fv tv ev nv kv:Value)(rs:List zaG)(d:TabD)(L:Int)(B:ByteArray)(C:Bool)(S:Int)(n:Nat)(w:World)(hr:zaY lo w (.slice ao rs.length rc) rs)(hsm:zcL rs)(hs:zbe lo w cv bv fv tv ev nv kv d)(hB:zd3 rs d ⟨L,B,C,S,n⟩=true):
  Calls Tryz.prog 7 #[.agg #[.slice ao rs.length rc,cv,.int .i64 d.width,bv,fv,tv,ev,nv,kv],.agg #[.int .i64 L,.string B,.bool C,.int .i64 S,.int .i64 n]] w fun e w'=>∃s' x,NxR rs d ⟨L,B,C,S,n⟩ s' x/\NxA w s' x e w':=by
 have F0:=Fo.new w 41 32 32 35 #[.slice ao rs.length rc,cv,.int .i64 d.width,bv,fv,tv,ev,nv,kv] #[.int .i64 L,.string B,.bool C,.int .i64 S,.int .i64 n] #[.int .i64 0,.string ⟨#[]⟩,.bool false,.int .i64 0,.int .i64 0] #[.int .i64 0,.int .i64 0,.int .i64 0,.int .i64 0,.slice none 0 0];obtain⟨W0,hW0⟩:∃W0,(((w.alloc (.cells #[.slice ao rs.length rc,cv,.int .i64 d.width,bv,fv,tv,ev,nv,kv] 41)).alloc (.cells #[.int .i64 L,.string B,.bool C,.int .i64 S,.int .i64 n] 32)).alloc (.cells #[.int .i64 0,.string ⟨#[]⟩,.bool false,.int .i64 0,.int .i64 0] 32)).alloc (.cells #[.int .i64 0,.int .i64 0,.int .i64 0,.int .i64 0,.slice none 0 0] 35)=W0:=⟨_,rfl⟩;rw[hW0] at F0;obtain⟨hlist,hf,htg,hfi,hL1,hL2,hBL,-,hnB,hS0,hS1⟩:=zb1 hB;dsimp only at hL1 hL2 hBL hnB hS0 hS1;obtain⟨ba,bc,hbv⟩:∃ba bc,bv=.slice ba d.base.length bc:=by obtain⟨ba,bc,h,_⟩:=hs.base;exact⟨ba,bc,h⟩
 subst hbv;obtain⟨tao,tcp,htv,-,htc⟩:=hs.tag;subst htv;obtain⟨eao,ecp,hev,-,hec⟩:=hs.fin;subst hev;have hn1:=hf.n1;obtain⟨tb,to_,rfl,-,htl,htq⟩:=htc (by rw[hf.tl];omega);obtain⟨eb,eo,rfl,-,hel,heq⟩:=hec (by rw[hf.el];omega);have c1:=zey ao rc cv _ fv _ _ nv kv rs d W0 (hr.below F0.below) hsm (hs.below F0.below);have hmb:matB rs d=true:=by simp only[zd3,zuK] at hB;exact hB.1.1
 have hsb:zcq ⟨L,B,C,S,n⟩=true:=by simp only[zd3,zuK] at hB;exact hB.1.2
 rw[hmb] at c1;obtain⟨st,Hst⟩:∃st:Nat->Nat,Hid (∀b,((st b:Nat):Int)=stT d ⟨L,B,C,S,n⟩ b):=⟨fun b=>(stT d ⟨L,B,C,S,n⟩ b).toNat,fun b=>by have:=zkH hB b;dsimp only;omega⟩;obtain⟨nm,Hnm⟩:∃nm:Nat->Int,Hid (∀b,nm b=namT d ⟨L,B,C,S,n⟩ b):=⟨_,fun _=>rfl⟩;have Hstb:Hid (∀b,st b<d.base.length):=fun b=>by have:=zkH hB b;have:=Hst.out b;omega
 have Hs0:Hid (∀b,b<=n->((st b:Nat):Int)=S):=fun b h=>by
  rw[Hst.out];unfold stT;dsimp only;rw[show b-(n:Int).toNat=0 from by omega];rfl
 have Hsn:Hid (∀b,n<=b->∀h:b<B.size,((st (b+1):Nat):Int)=zcb d (st b) (B[b]'h).toNat):=fun b h1 h2=>by
  rw[Hst.out,znc (s:=⟨L,B,C,S,n⟩) (by dsimp only;omega) (B[b]'h2).toNat (by dsimp only;simp[h2];rfl),<-Hst.out]
  rfl
 have Hnb:Hid (∀b,-1<=nm b/\nm b<rs.length):=fun b=>by rw[Hnm.out];exact zlH hB b
 have Hnt:Hid (∀b,(C&&b==B.size)=false->nm b=d.tag.getD (st b) 0):=fun b h=>by
  rw[Hnm.out];unfold namT;dsimp only;rw[h];simp only[zuL,if_false];rw[<-Hst.out];rfl
 have Hnf:Hid (∀b,(C&&b==B.size)=true->nm b=d.fin.getD (st b) 0):=fun b h=>by
  rw[Hnm.out];unfold namT;dsimp only;rw[h];simp only[if_true];rw[<-Hst.out];rfl
 obtain⟨c0,c1',c2',c3,f1,f2,f3⟩:=F0.cells;have Hr:=hidR hr;have Hs:=hidR hs;have Htq:=hidR htq;have Heq:=hidR heq;have Htl:=hidR hf.tl;have Hel:=hidR hf.el;have Hf:=hidR hf;have HB:=hidR hB;have Hlist:=hidR hlist;clear hr hs htc hec htq heq hf hB hlist htg hfi hmb
 go_enter Tryz.func7,Tryz.ntmps7
 go_wp2_with fail
 refine c1.mono ?_;rintro e W1 ⟨rfl,hb1⟩;have F1:=F0.call hb1;clear c0 c1' c2' c3 f1 f2 f3 hW0 c1 F0 hb1;have c2:=zez ⟨L,B,C,S,n⟩ W1;rw[hsb] at c2;dsimp only at c2;obtain⟨c0,c1,c2',c3,f1,f2,f3⟩:=F1.cells
 go_wp2_with fail
 refine c2.mono ?_;rintro e W2 ⟨rfl,hb2⟩;have F2:=F1.call hb2;clear c0 c1 c2' c3 f1 f2 f3 c2 F1 hb2 hsb;have HF2:=hidR F2;obtain⟨c0,c1,c2,c3,f1,f2,f3⟩:=F2.cells;have hSd:decide (S>=(d.base.length:Int))=false:=decide_eq_false (by omega);clear F2;go_wp2;clear c0 c1 c2 c3 f1 f2 f3 hSd
 go_loopw [6,7] (fun qv bvv wr=>∃b:Nat,n<=b/\b<=B.size+1/\bvv=.int .i64 b/\qv=.int .i64 (st (b-1))/\Hid (Fo w 41 32 32 35 #[.slice ao rs.length rc,cv,.int .i64 d.width,.slice ba d.base.length bc,fv,.slice (some ⟨tb,to_,none⟩) d.tag.length tcp,.slice (some ⟨eb,eo,none⟩) d.fin.length ecp,nv,kv] #[.int .i64 L,.string B,.bool C,.int .i64 S,.int .i64 n] #[.int .i64 0,.string ⟨#[]⟩,.bool false,.int .i64 0,.int .i64 0] #[.int .i64 0,.int .i64 0,.int .i64 0,.int .i64 0,.slice none 0 0] wr)/\Hid (∀j,n<=j->j<b->nm j=-1))
  (fun _ bvv _=>B.size+1-(intOf bvv).toNat)
 case atStart=>exact⟨n,zvJ _,by omega,rfl,by rw[Hs0.out _ (by omega)],HF2,fun j h1 h2=>by omega⟩
 case round=>
  clear HF2;obtain⟨b,hnb,hbs,rfl,rfl,HF,HNo⟩:=hrel;obtain⟨V,hV⟩:∃V,V=wr:=⟨_,rfl⟩;subst hV;have hmix:Tryz.prog.follows .mixedOrders=true:=by kernel_rfl
  by_cases hlb:b<=B.size
  ·have hd1:decide ((b:Int)<=(B.size:Int))=true:=decide_eq_true (by omega);obtain⟨c0,c1,c2,c3,f1,f2,f3⟩:=HF.out.cells
   go_upto_region 7 with fail
   go_cut [44] from 41 to 44 (fun v wx=>v=.bool (decide (n<b))/\wx=V)
   case first=>
    go_wp2
    go_meet
    exact⟨rfl,rfl⟩
   obtain⟨rfl,hwc⟩:=hcut;subst hwc
   rename_i K hK
   refine hK _ _ ?_;clear hK K;obtain⟨V,hV⟩:∃V,V=wc:=⟨_,rfl⟩;subst hV
   go_cut [6] from 44 to 54 (fun v wx=>v=.int .i64 (st b)/\Hid (Fo w 41 32 32 35 #[.slice ao rs.length rc,cv,.int .i64 d.width,.slice ba d.base.length bc,fv,.slice (some ⟨tb,to_,none⟩) d.tag.length tcp,.slice (some ⟨eb,eo,none⟩) d.fin.length ecp,nv,kv] #[.int .i64 L,.string B,.bool C,.int .i64 S,.int .i64 n] #[.int .i64 0,.string ⟨#[]⟩,.bool false,.int .i64 0,.int .i64 0] #[.int .i64 0,.int .i64 0,.int .i64 0,.int .i64 0,.slice none 0 0] wx))
   case first=>
    by_cases hbn:b=n
    ·have hd2:decide (n<b)=false:=decide_eq_false (by omega);have e1:st (b-1)=st b:=by have:=Hs0.out (b-1) (by omega);have:=Hs0.out b (by omega);omega
     rw[e1];go_wp2
     go_meet
     exact⟨rfl,HF⟩
    ·have hd2:decide (n<b)=true:=decide_eq_true (by omega);obtain⟨p,hp⟩:∃p,b-1=p:=⟨_,rfl⟩;have hpb:(b:Int)-1=(p:Int):=by omega
     have hps:p<B.size:=by omega
     have hp1:(p:Int)<(B.size:Int):=by omega
     have hp0:(0:Int)<=(p:Int):=by omega
     have Hlk:Hid (((st b:Nat):Int)=zcb d (st p) (B[p]'hps).toNat):=by
      have:=Hsn.out p (by omega) hps;rw[show p+1=b from by omega] at this;exact this
     have hc:(B[p]'hps).toNat<256:=(B[p]'hps).toNat_lt;have hgo:=fun nq:Nat=>ztl cv _ fv _ _ nv kv d (st p) (B[p]'hps).toNat (V.drewN nq) (Hs.out.below (below_drewN HF.out.below nq)) Hf.out (Hstb.out p) hc
     rw[hp]
     go_upto_region 8 with fail
     refine za4 9 (fun w'=>∃nq,w'=V.drewN nq) hmix ⟨1,rfl⟩ (by decide) (by kernel_rfl) ?_;intro os hos;simp only[zvD,zvF] at hos;subst hos
     repeat (go_big_quiet_step (fail))
     refine wpQuiet_nil ?_;rintro w' ⟨nq,rfl⟩ r' hr';simp only[zuX,zuY] at hr';subst hr'
     go_wp2_with fail
     refine(hgo nq).mono ?_;rintro e W3 ⟨rfl,hb3⟩;have HF3:=hidR (HF.out.call ((below_drewN (Below.refl V.heap.size V) nq).trans hb3));clear hgo c0 c1 c2 c3 f1 f2 f3;go_wp2
     go_meet
     exact⟨by rw[Hlk.out],HF3⟩
   case rest=>
    obtain⟨rfl,HF4⟩:=hcut;clear HF c0 c1 c2 c3 f1 f2 f3;have hbel:=HF4.out.below;have hi0:(0:Int)<=(st b:Int):=by omega
    have hi1:(st b:Int)<(d.tag.length:Int):=by have:=Hstb.out b;have:=Htl.out;omega
    have hi2:(st b:Int)<(d.fin.length:Int):=by have:=Hstb.out b;have:=Hel.out;omega
    have ct:wc.cell? ⟨tb,to_+st b,none⟩=some (.int .i64 (d.tag.getD (st b) 0)):=(hbel.cell (by exact htl)).trans (Htq.out (st b) (by omega));have ce:wc.cell? ⟨eb,eo+st b,none⟩=some (.int .i64 (d.fin.getD (st b) 0)):=(hbel.cell (by exact hel)).trans (Heq.out (st b) (by omega));obtain⟨c0,c1,c2,c3,f1,f2,f3⟩:=HF4.out.cells;obtain⟨V4,hV4⟩:∃V4,V4=wc:=⟨_,rfl⟩;subst hV4
    rename_i K hK
    refine hK _ _ ?_;clear hK K
    go_upto_region 10 with fail
    go_cut [69] from 61 to 69 (fun v wx=>v=.bool (C&&b==B.size)/\wx=V4)
    case first=>
     have Hq:Hid (((b:Int)==(B.size:Int))=(b==B.size)):=by
      show _=_
      by_cases h:b=B.size
      ·subst h;simp
      ·have:((b:Int)==(B.size:Int))=false:=by simp;omega
       rw[this];simp;omega
     cases C
     ·go_wp2
      go_meet
      exact⟨rfl,rfl⟩
     ·go_wp2
      go_meet
      exact⟨by first|rfl|(rw[Hq.out];rfl),rfl⟩
    obtain⟨rfl,hwc⟩:=hcut;subst hwc
    rename_i K hK
    refine hK _ _ ?_;clear hK K;obtain⟨V4,hV4⟩:∃V4,V4=wc:=⟨_,rfl⟩;subst hV4
    go_cut [8] from 69 to 75 (fun v wx=>v=.int .i64 (nm b)/\wx=V4)
    case first=>
     cases hcb:(C&&b==B.size)
     ·have E1:=hidR (Hnt.out b hcb);go_wp2
      go_meet
      exact⟨by rw[E1.out,zu3],rfl⟩
     ·have E1:=hidR (Hnf.out b hcb);go_wp2
      go_meet
      exact⟨by rw[E1.out,zu3],rfl⟩
    case rest=>
     obtain⟨rfl,hwc⟩:=hcut;subst hwc
     rename_i K hK
     refine hK _ _ ?_;clear hK K;clear ct ce
     by_cases hneg:nm b<0
     ·have hd3:decide (nm b<0)=true:=decide_eq_true hneg;have HN2:Hid (∀j,n<=j->j<b+1->nm j=-1):=fun j h1 h2=>by
       by_cases e:j=b
       ·subst e;have:=(Hnb.out j).1;omega
       ·exact HNo.out j h1 (by omega)
      clear hneg;go_wp2
      go_roundw
      case rel=>exact⟨b+1,by omega,by omega,by go_num,by rw[zvG],HF4,HN2⟩
      case measure=>simp[intOf];omega
     ·obtain⟨i,hi⟩:∃i:Nat,nm b=i:=⟨(nm b).toNat,by omega⟩;have hil:i<rs.length:=by have:=(Hnb.out b).2;omega
      have Hi:=hidR hi;rw[hi];clear hi hneg;obtain⟨ao',rc',hv',hrm,hrc⟩:=Hr.out;cases hv';obtain⟨rb,ro,rv,rd,rfl,Hrd,hrl,k0,k1,hrv⟩:=hrc.elem hbel hil;obtain⟨bao,bcp,rfl,hbm,hbc⟩:=hrv;have hB0:zao lo w (.slice bao rd.branches.length bcp) rd.branches:=⟨bao,bcp,rfl,hbm,hbc⟩;have hsr:Small rd.branches:=by have:=hsm.2 i hil;rw[Hrd.out] at this;exact this
      have hok:okR rd=true:=by
       have h1:=Hlist.out;simp only[zc2,zuK] at h1;exact zuP.1 h1.1.2 rd (by rw[<-Hrd.out];simp[List.getD,hil])
      obtain⟨G,hG,hG5⟩:∃G:Nat,rd.groups=G/\G<=500:=by
       unfold okR zbP at hok;simp only[zuK,zvX] at hok;exact⟨rd.groups.toNat,by omega,by omega⟩
      have HG:=hidR hG;rw[hG] at k1;have hx0:(0:Int)<=(i:Int):=by omega
      have hx1:(i:Int)<(rs.length:Int):=by omega
      have hd3:decide ((i:Int)<0)=false:=decide_eq_false (by omega);obtain⟨V5,hV5⟩:∃V5,wc.alloc (.cells #[.int .i64 1,.int .i64 i,.int .i64 (-1),.int .i64 b,.slice none 0 0] 35)=V5:=⟨_,rfl⟩;have hbV:Below wc.heap.size wc V5:=by rw[<-hV5];exact(Below.refl _ _).alloc (zvJ _) _
      have xV:V5.heap[wc.heap.size]?=some (.cells #[.int .i64 1,.int .i64 i,.int .i64 (-1),.int .i64 b,.slice none 0 0] 35 (0,0)):=by rw[<-hV5];exact zvZ _ _
      have F5:=HF4.out.call hbV;have hno:=zmV (.slice bao rd.branches.length bcp) G (-1) (-1) V5 hG5 (wc.heap.size+1) (zix xV);have l0:V5.cell? ⟨rb,ro+i*2,none⟩=_:=(hbV.cell (p:=⟨rb,ro+i*2,none⟩) (zvL hrl hbel.size)).trans k0;have l1:V5.cell? ⟨rb,ro+i*2+1,none⟩=_:=(hbV.cell (p:=⟨rb,ro+i*2+1,none⟩) (zvL hrl hbel.size)).trans k1;have HF5:=hidR F5;have hg9:=HF4.out.size;have Hbc:=hidR hbc;have HB0:=hidR hB0;have Hrel:Hid (∀W,Below w.heap.size w W->W.cell? ⟨rb,ro+i*2,none⟩=some (.slice bao rd.branches.length bcp)/\W.cell? ⟨rb,ro+i*2+1,none⟩=some (.int .i64 G)):=fun W hb=>by
       obtain⟨rb',ro',rv',rd',e1,Hrd',_,m0,m1,_⟩:=hrc.elem hb hil;cases e1;have e2:rd'=rd:=by rw[<-Hrd.out,<-Hrd'.out]
       subst e2;obtain⟨_,_,_,n0,n1,_⟩:=hrc.elem (Below.refl _ _) hil;have z0:=(hb.cell (p:=⟨rb,ro+i*2,none⟩) hrl);have y0:=(hbel.cell (p:=⟨rb,ro+i*2,none⟩) hrl);have z1:=(hb.cell (p:=⟨rb,ro+i*2+1,none⟩) hrl);have y1:=(hbel.cell (p:=⟨rb,ro+i*2+1,none⟩) hrl);exact⟨z0.trans (y0.symm.trans k0),z1.trans (y1.symm.trans k1)⟩
      obtain⟨g9,Hg9⟩:∃g9,Hid (wc.heap.size=g9):=⟨_,rfl⟩;obtain⟨d0,d1,d2,d3,e1,e2,e3⟩:=HF5.out.cells;have HV5:=hidR hV5;clear c0 c1 c2 c3 f1 f2 f3 hrc hbc hB0 hG hok F5 k0 k1 hV5
      go_upto_region 14 with fail
      rw[HV5.out];clear HV5
      go_wp2_with fail
      refine hno.mono ?_;rintro e W6 ⟨gs,cap,rfl,own6,hb6⟩;have x6:=zag xV hb6;have q4:=zvY _ _ 4 _ _ x6;obtain⟨q0,q1,q2,q3,q5⟩:=zax x6;have FI:Fi w #[.slice (some ⟨rb,ro,none⟩) rs.length rc,cv,.int .i64 d.width,.slice ba d.base.length bc,fv,.slice (some ⟨tb,to_,none⟩) d.tag.length tcp,.slice (some ⟨eb,eo,none⟩) d.fin.length ecp,nv,kv] #[.int .i64 L,.string B,.bool C,.int .i64 S,.int .i64 n] wc.heap.size (some ⟨gs,0,none⟩) (G+1) cap i (-1) b (zbT (-1,-1) G) (W6.setCell ⟨wc.heap.size,4,none⟩ (.slice (some ⟨gs,0,none⟩) (G+1) cap)):=Fi.row (HF5.out.call hb6) x6 hg9 (by rw[zcD];exact own6);have HFI:=hidR FI;obtain⟨W7,hW7⟩:∃W7,W6.setCell ⟨wc.heap.size,4,none⟩ (.slice (some ⟨gs,0,none⟩) (G+1) cap)=W7:=⟨_,rfl⟩;rw[hW7] at HFI;obtain⟨m,Hm⟩:∃m,Hid (G+1=m):=⟨_,rfl⟩;rw[Hm.out] at HFI hW7 ⊢;have hGm:(G:Int)+1=(m:Int):=by have:=Hm.out;omega
      clear hno d0 d1 d2 d3 e1 e2 e3 own6 FI l0 l1 x6
      go_upto_region 15 with fail
      clear hW7 q0 q1 q2 q3 q4 q5;rw[Hg9.out] at HFI ⊢;go_wp2;obtain⟨W9,hW9⟩:∃W9,W9=W7:=⟨_,rfl⟩;subst hW9
      go_loopw [10] (fun av wr=>∃(k:Nat) (sa:Int),k<=b+1/\av=.int .i64 ((k:Int)-1)/\Hid (Fi w #[.slice (some ⟨rb,ro,none⟩) rs.length rc,cv,.int .i64 d.width,.slice ba d.base.length bc,fv,.slice (some ⟨tb,to_,none⟩) d.tag.length tcp,.slice (some ⟨eb,eo,none⟩) d.fin.length ecp,nv,kv] #[.int .i64 L,.string B,.bool C,.int .i64 S,.int .i64 n] g9 (some ⟨gs,0,none⟩) m cap i sa b (zbT (-1,-1) G) wr)/\Hid (StK rd B b C k sa))
       (fun av _=>(intOf av+1).toNat)
      case atStart=>exact⟨b+1,-1,zvJ _,by rw[show (((b+1:Nat):Int)-1)=(b:Int) from by omega],HFI,.inl ⟨rfl,fun j h1 h2=>by omega⟩⟩
      case round=>
       clear HFI;obtain⟨k,sa,hk,rfl,HFI,HSK⟩:=hrel;obtain⟨d0,d1,d2,d3,e1,e2,e3⟩:=HFI.out.fo.cells;have hbr:=HFI.out.fo.below;obtain⟨l0,l1⟩:=Hrel.out wr hbr
       by_cases hk0:k=0
       ·have HSR:Hid (zfX rd B b C sa):=by
         have:=HSK.out;rw[hk0] at this;exact this.done
        rw[show ((k:Int)-1)=-1 from by omega];obtain⟨y0,y1,y2,y3,y4⟩:=zax HFI.out.bx;obtain⟨W9,hW9⟩:∃W9,W9=wr:=⟨_,rfl⟩;subst hW9;clear HSK hk0 hk
        go_upto_region 20 with fail
        go_cut [110] from 108 to 110 (fun v wx=>v=.bool (decide (0<=sa))/\wx=W9)
        case first=>
         go_wp2
         go_meet
         exact⟨by first|rfl|simp,rfl⟩
        obtain⟨rfl,hwc⟩:=hcut;subst hwc
        rename_i K hK
        refine hK _ _ ?_;clear hK K;obtain⟨W9,hW9⟩:∃W9,W9=wc:=⟨_,rfl⟩;subst hW9
        go_cut [] from 110 to 124 (fun wx=>∃(so:Option Addr) (m cap:Nat) (sp:List (Int×Int)),Hid (Fi w #[.slice (some ⟨rb,ro,none⟩) rs.length rc,cv,.int .i64 d.width,.slice ba d.base.length bc,fv,.slice (some ⟨tb,to_,none⟩) d.tag.length tcp,.slice (some ⟨eb,eo,none⟩) d.fin.length ecp,nv,kv] #[.int .i64 L,.string B,.bool C,.int .i64 S,.int .i64 n] g9 so m cap i sa b sp wx)/\Hid (zeW rd B sa b C sp))
        case first=>
         rcases HSR.out with ⟨rfl,-⟩|⟨j,rfl,hjb,hjs,-⟩
         ·have HSp:Hid (zeW rd B (-1) b C (zbT (-1,-1) G)):=.inl ⟨rfl,by rw[HG.out];rfl⟩;go_wp2
          go_meet
          exact⟨_,_,_,_,HFI,HSp⟩
         ·obtain⟨r,hr⟩:=zoQ rd.groups rd.branches B (j:Int) (b:Int) C;have hcp:=fun W (hb:Below w.heap.size w W)=>zhX rd.groups (.slice bao rd.branches.length bcp) rd.branches B j b C r W (HB0.out.below hb) hsr hr
          rw[HG.out] at hcp;have HSp:Hid (zeW rd B j b C r):=.inr ⟨by omega,hr⟩;have hdj:decide ((0:Int)<=(j:Int))=true:=decide_eq_true (by omega);have Hcp:=hidR hcp;clear hcp HSR
          go_upto_region 21 with fail
          refine za4 12 (fun w'=>∃nq,w'=W9.drewN nq) hmix ⟨1,rfl⟩ (by decide) (by kernel_rfl) ?_;intro os hos;simp only[zvD,zvF] at hos;subst hos
          repeat (go_big_quiet_step (fail))
          refine wpQuiet_nil ?_;rintro w' ⟨nq,rfl⟩ r' hr';simp only[zuX,zuY] at hr';subst hr';have HFb:=hidR (HFI.out.call (below_drewN (Below.refl W9.heap.size W9) nq));have hcq:=Hcp.out (W9.drewN nq) HFb.out.fo.below;clear d0 d1 d2 d3 e1 e2 e3 l0 l1 y0 y1 y2 y3 y4 hbr
          go_wp2_with fail
          refine hcq.mono ?_;rintro e W8 ⟨v8,rfl,own8,hb8⟩;obtain⟨so8,m8,cap8,rfl⟩:∃so m cap,v8=.slice so m cap:=by
           rcases own8.2 with ⟨e,_⟩|⟨g,c,_,e,_⟩
           ·exact⟨_,_,_,e⟩
           ·exact⟨_,_,_,e⟩
          have HF8:=HFb.out.call hb8;have q4:=zvY _ _ 4 _ _ HF8.bx;obtain⟨y0,y1,y2,y3,y4⟩:=zax HF8.bx;have HF9:=hidR (Fi.row HF8.fo HF8.bx HF8.lo (zck own8 (zix HFb.out.bx)));clear own8 HF8 HFb HFI hcq;go_wp2
          go_meet
          exact⟨_,_,_,_,HF9,HSp⟩
        case rest=>
         obtain⟨so,m1,cap1,sp,HFI2,HSp⟩:=hcut
         rename_i K hK
         refine hK _ _ ?_;clear hK K HFI d0 d1 d2 d3 e1 e2 e3 l0 l1 y0 y1 y2 y3 y4 hbr;obtain⟨d0,d1,d2,d3,e1,e2,e3⟩:=HFI2.out.fo.cells;obtain⟨y0,y1,y2,y3,y4⟩:=zax HFI2.out.bx;have hb0:(0:Int)<=(b:Int):=by omega
         have hb1:(b:Int)<=(B.size:Int):=by omega
         have hl:=HFI2.out.lo;have n1:g9≠w.heap.size+1+1:=by omega
         have n2:w.heap.size+1+1≠g9:=by omega
         go_upto_region 22 with fail
         go_region
         go_wp2;refine zvV (v:=.tuple #[.agg #[.int .i64 L,.string (B.extract b B.size),.bool C,.int .i64 0,.int .i64 0],.agg #[.int .i64 1,.int .i64 i,.int .i64 sa,.int .i64 b,.slice so m1 cap1]]) (by simp[results,Tryz.results7,go_sem,d2,d3]) rfl ?_;refine⟨⟨L,B.extract b B.size,C,0,0⟩,⟨1,i,sa,b,sp⟩,.inr (.inl ⟨HB.out,b,by dsimp only;omega,hlb,fun j h1 h2=>?_,?_,sa,sp,?_,?_,rfl,?_⟩),.slice so m1 cap1,rfl,?_,?_⟩
         ·rw[<-Hnm.out];exact HNo.out j (by dsimp only at h1;omega) h2
         ·rw[<-Hnm.out,Hi.out];omega
         ·rw[<-Hnm.out,Hi.out,zuO,Hrd.out];exact HSR.out
         ·rw[<-Hnm.out,Hi.out,zuO,Hrd.out];exact HSp.out
         ·rw[<-Hnm.out,Hi.out]
         ·refine zmZ (zck (zav HFI2.out.own fun k e=>?_) (show w.heap.size<=g9+1 by omega));have hk:=zkv HFI2.out.own e;exact zj7 (by omega) (by omega) _ _ _ _ _ _ _ _ _ _
         ·refine Below.drew ?_
          iterate 10 refine Below.setCell ?_ (by simp<;>omega) _
          exact HFI2.out.fo.below
       ·obtain⟨p,rfl⟩:∃p,k=p+1:=⟨k-1,by omega⟩;rw[show (((p+1:Nat):Int)-1)=(p:Int) from by omega];have hp0:decide ((p:Int)>=0)=true:=decide_eq_true (by omega);have hms:=fun nq:Nat=>zmf (G:Int) (.slice bao rd.branches.length bcp) rd.branches B p b C (wr.drewN nq) (HB0.out.below (below_drewN hbr nq)) hsr
        rw[<-HG.out] at hms;have HSP:Hid (∀q:Bool,(q=true↔zeF rd.groups rd.branches B p b C)->q=true->zeF rd.groups rd.branches B p b C):=fun q h1 h2=>h1.1 h2
        go_upto_region 18 with fail
        refine za4 11 (fun w'=>∃nq,w'=wr.drewN nq) hmix ⟨1,rfl⟩ (by decide) (by kernel_rfl) ?_;intro os hos;simp only[zvD,zvF] at hos;subst hos
        repeat (go_big_quiet_step (fail))
        refine wpQuiet_nil ?_;rintro w' ⟨nq,rfl⟩ r' hr';simp only[zuX,zuY] at hr';subst hr';rw[HG.out] at hms
        go_wp2_with fail
        refine(hms nq).mono ?_;rintro e W8 ⟨q,rfl,hiff,hb8⟩;have HF8:=hidR (HFI.out.call ((below_drewN (Below.refl wr.heap.size wr) nq).trans hb8));clear hms d0 d1 d2 d3 e1 e2 e3 l0 l1 HFI hbr;cases q
        ·have HS2:Hid (StK rd B b C p sa):=HSK.out.no (by rw[HG.out];exact fun h=>by have:=hiff.2 h;cases this);clear hiff HSK;go_wp2
         go_roundw
         case rel=>exact⟨p,sa,by omega,by go_num,HF8,HS2⟩
         case measure=>simp[intOf]
        ·have HS2:Hid (StK rd B b C p p):=StK.yes (by omega) (by rw[HG.out];exact hiff.1 rfl);have q2:=zvY _ _ 2 _ _ HF8.out.bx;obtain⟨y0,y1,y2,y3,y4⟩:=zax HF8.out.bx;have HF9:=hidR (HF8.out.put p);clear hiff HSK HF8;go_wp2
         go_roundw
         case rel=>exact⟨p,p,by omega,by go_num,HF9,HS2⟩
         case measure=>simp[intOf]
  ·have hbe:b=B.size+1:=by omega
   have hd1:decide ((b:Int)<=(B.size:Int))=false:=decide_eq_false (by omega);have e1:st (b-1)=st B.size:=by rw[hbe,zvG]
   rw[e1];obtain⟨c0,c1,c2,c3,f1,f2,f3⟩:=HF.out.cells
   go_upto_region 23 with fail
   cases C
   ·go_wp2;refine zvV (v:=.tuple #[.agg #[.int .i64 L,.string B,.bool false,.int .i64 (st B.size),.int .i64 B.size],.agg #[.int .i64 2,.int .i64 0,.int .i64 0,.int .i64 0,.slice none 0 0]]) (by simp[results,Tryz.results7,go_sem,c2,c3]) rfl ?_;refine⟨⟨L,B,false,st B.size,B.size⟩,⟨2,0,0,0,[]⟩,.inr (.inr ⟨HB.out,fun j h1 h2=>?_,?_,rfl⟩),.slice none 0 0,rfl,⟨rfl,.inl ⟨rfl,rfl⟩⟩,?_⟩
    ·rw[<-Hnm.out];exact HNo.out j (by dsimp only at h1;omega) (by dsimp only at h2;omega)
    ·rw[Hst.out]
    ·iterate 12 refine Below.setCell ?_ (by simp<;>omega) _
     exact HF.out.below
   ·go_wp2;refine zvV (v:=.tuple #[.agg #[.int .i64 L,.string B,.bool true,.int .i64 (st B.size),.int .i64 B.size],.agg #[.int .i64 3,.int .i64 0,.int .i64 0,.int .i64 0,.slice none 0 0]]) (by simp[results,Tryz.results7,go_sem,c2,c3]) rfl ?_;refine⟨⟨L,B,true,st B.size,B.size⟩,⟨3,0,0,0,[]⟩,.inr (.inr ⟨HB.out,fun j h1 h2=>?_,?_,rfl⟩),.slice none 0 0,rfl,⟨rfl,.inl ⟨rfl,rfl⟩⟩,?_⟩
    ·rw[<-Hnm.out];exact HNo.out j (by dsimp only at h1;omega) (by dsimp only at h2;omega)
    ·rw[Hst.out]
    ·iterate 12 refine Below.setCell ?_ (by simp<;>omega) _
     exact HF.out.below
end
section
open Go.RowKit
attribute [local go_sem ↓] Go.wp_at_zero Go.wp_at_succ
theorem FinS.base{w w' W:World}{rv cv bv fv tv ev nv kv:Value}{wd:Int}{rs:List zaG}{bf g cap gq:Nat}{vs:List Value}(h:FinS w' rv cv bv fv tv ev nv kv wd rs bf g cap gq vs W)(hb:Below w.heap.size w w'):FinS w rv cv bv fv tv ev nv kv wd rs bf g cap gq vs W:=
 ⟨zaa hb hb.size h.bel,zvK hb.size h.bflo,zvK hb.size h.gqlo,h.box,zck h.own hb.size,h.prt,h.qs⟩
theorem zlu{lo:Nat}(ao:Option Addr)(rc:Nat)(cv bv fv tv ev nv kv:Value)(rs:List zaG)(d:TabD)(s:zbs)(w:World)(hr:zaY lo w (.slice ao rs.length rc) rs)(hsm:zcL rs)(hs:zbe lo w cv bv fv tv ev nv kv d)(hts:zcu d)(hBr:za7 w):
  Calls Tryz.prog 10 #[.agg #[.slice ao rs.length rc,cv,.int .i64 d.width,bv,fv,tv,ev,nv,kv],.agg #[.int .i64 s.L,.string s.B,.bool s.C,.int .i64 s.S,.int .i64 s.N]] w fun e w'=>∃s' x,NxR rs d s s' x/\NxA w s' x e w':=by
 have F0:=Fo.new w 41 32 32 35 #[.slice ao rs.length rc,cv,.int .i64 d.width,bv,fv,tv,ev,nv,kv] #[.int .i64 s.L,.string s.B,.bool s.C,.int .i64 s.S,.int .i64 s.N] #[.int .i64 0,.string ⟨#[]⟩,.bool false,.int .i64 0,.int .i64 0] #[.int .i64 0,.int .i64 0,.int .i64 0,.int .i64 0,.slice none 0 0];obtain⟨W0,hW0⟩:∃W0,(((w.alloc (.cells #[.slice ao rs.length rc,cv,.int .i64 d.width,bv,fv,tv,ev,nv,kv] 41)).alloc (.cells #[.int .i64 s.L,.string s.B,.bool s.C,.int .i64 s.S,.int .i64 s.N] 32)).alloc (.cells #[.int .i64 0,.string ⟨#[]⟩,.bool false,.int .i64 0,.int .i64 0] 32)).alloc (.cells #[.int .i64 0,.int .i64 0,.int .i64 0,.int .i64 0,.slice none 0 0] 35)=W0:=⟨_,rfl⟩;rw[hW0] at F0;obtain⟨ba,bc,hbv⟩:∃ba bc,bv=.slice ba d.base.length bc:=by obtain⟨ba,bc,h,_⟩:=hs.base;exact⟨ba,bc,h⟩
 subst hbv;have cf:=zkn ao rc cv _ fv tv ev nv kv rs d W0 (hr.below F0.below) hsm (hs.below F0.below) hts;have Hbad:Hid (zd3 rs d s=false->∀W,Fo w 41 32 32 35 #[.slice ao rs.length rc,cv,.int .i64 d.width,.slice ba d.base.length bc,fv,tv,ev,nv,kv] #[.int .i64 s.L,.string s.B,.bool s.C,.int .i64 s.S,.int .i64 s.N] #[.int .i64 0,.string ⟨#[]⟩,.bool false,.int .i64 0,.int .i64 0] #[.int .i64 0,.int .i64 0,.int .i64 0,.int .i64 0,.slice none 0 0] W->True):=fun _ _ _=>trivial
 have Hn:Hid (zd3 rs d s=(matB rs d&&zcq s&&decide (s.S<d.base.length))):=rfl;obtain⟨c0,c1,c2,c3,f1,f2,f3⟩:=F0.cells;have Hr:=hidR hr;have Hs:=hidR hs;have HBr:=hidR hBr;clear hr hs hBr Hbad
 go_enter Tryz.func10,Tryz.ntmps10
 go_wp2_with fail
 refine cf.mono ?_;rintro e W1 (⟨hm,rfl,hb1⟩|⟨hm,bf,g,cap,gq,vs,rfl,hF⟩)
 ·have F1:=F0.call hb1;have HR:Hid (NxR rs d s .zero .zero):=.inl ⟨by rw[Hn.out,hm];rfl,rfl,rfl⟩;clear c0 c1 c2 c3 f1 f2 f3 hW0 cf F0 hb1 hm Hn;obtain⟨c0,c1,c2,c3,f1,f2,f3⟩:=F1.cells;go_wp2;exact zvV (v:=.tuple #[.agg #[.int .i64 0,.string ⟨#[]⟩,.bool false,.int .i64 0,.int .i64 0],.agg #[.int .i64 0,.int .i64 0,.int .i64 0,.int .i64 0,.slice none 0 0]]) (by simp[results,Tryz.results10,go_sem,c2,c3]) rfl ⟨_,_,HR.out,_,rfl,⟨rfl,.inl ⟨rfl,rfl⟩⟩,by
   iterate 10 refine Below.setCell ?_ (by simp<;>omega) _
   exact F1.below⟩
 have F1:=F0.call hF.bel;have cok:=ztk (w.heap.size+1) s W1 F1.r1;have HF:=hidR (hF.base F0.below);have HF1:=hidR F1;rw[hm] at Hn;clear c0 c1 c2 c3 f1 f2 f3 hW0 cf F0 hm hF F1;obtain⟨c0,c1,c2,c3,f1,f2,f3⟩:=HF1.out.cells
 go_wp2_with fail
 refine cok.mono ?_;rintro e W2 ⟨rfl,hb2⟩;have HF2:=hidR (HF.out.below hb2);have F2:=HF1.out.call hb2;clear c0 c1 c2 c3 f1 f2 f3 cok HF HF1 hb2;obtain⟨c0,c1,c2,c3,f1,f2,f3⟩:=F2.cells;cases hq:zcq s
 ·have HR:Hid (NxR rs d s .zero .zero):=.inl ⟨by rw[Hn.out,hq];rfl,rfl,rfl⟩;go_wp2;exact zvV (v:=.tuple #[.agg #[.int .i64 0,.string ⟨#[]⟩,.bool false,.int .i64 0,.int .i64 0],.agg #[.int .i64 0,.int .i64 0,.int .i64 0,.int .i64 0,.slice none 0 0]]) (by simp[results,Tryz.results10,go_sem,c2,c3]) rfl ⟨_,_,HR.out,_,rfl,⟨rfl,.inl ⟨rfl,rfl⟩⟩,by
   iterate 10 refine Below.setCell ?_ (by simp<;>omega) _
   exact F2.below⟩
 by_cases hS:s.S<(d.base.length:Int)
 case neg=>
  have HR:Hid (NxR rs d s .zero .zero):=.inl ⟨by rw[Hn.out,hq];exact decide_eq_false hS,rfl,rfl⟩;have hSd:decide (s.S>=(d.base.length:Int))=true:=decide_eq_true (by omega);go_wp2;exact zvV (v:=.tuple #[.agg #[.int .i64 0,.string ⟨#[]⟩,.bool false,.int .i64 0,.int .i64 0],.agg #[.int .i64 0,.int .i64 0,.int .i64 0,.int .i64 0,.slice none 0 0]]) (by simp[results,Tryz.results10,go_sem,c2,c3]) rfl ⟨_,_,HR.out,_,rfl,⟨rfl,.inl ⟨rfl,rfl⟩⟩,by
   iterate 10 refine Below.setCell ?_ (by simp<;>omega) _
   exact F2.below⟩
 have hSd:decide (s.S>=(d.base.length:Int))=false:=decide_eq_false (by omega);have hB:zd3 rs d s=true:=by rw[Hn.out,hq];exact decide_eq_true hS
 obtain⟨L,B,C,S,N⟩:=s;obtain⟨n,rfl⟩:∃n:Nat,N=n:=⟨N.toNat,by obtain⟨-,-,-,-,-,-,-,h0,-⟩:=zb1 hB;dsimp only at h0;omega⟩;dsimp only at *;have hnx:=zrV w W2 bf g cap gq (w.heap.size+1) vs ao rc cv _ fv tv ev nv kv rs d L B C S n Hr.out hsm Hs.out HBr.out hB HF2.out F2.r1 (by omega);have HF2':=hidR F2;clear Hn hq hS F2
 go_wp2_with fail
 refine hnx.mono ?_;rintro e W3 ⟨s',x,v,hx,rfl,g3,own3,tc3⟩;obtain⟨so,sm,sc,rfl⟩:∃so sm sc,v=.slice so sm sc:=by
  rcases own3.2 with ⟨e,_⟩|⟨g,c,_,e,_⟩
  ·exact⟨_,_,_,e⟩
  ·exact⟨_,_,_,e⟩
 obtain⟨L',B',C',S',N'⟩:=s';obtain⟨k',r',a',e',sp⟩:=x;dsimp only at g3 own3;simp only[ansV];have hF2:=HF2'.out;have hws:=hF2.size;have hbw:=hF2.below;have hs3:=tc3.size;have q2:=HF2.out.qs;have n2:w.heap.size+2≠gq:=fun e=>by
  have:=hF2.r2;rw[e,q2] at this;exact absurd (zad this) (by decide)
 have n3:w.heap.size+3≠gq:=fun e=>by
  have:=hF2.r3;rw[e,q2] at this;exact absurd (zad this) (by decide)
 have hb3:Below w.heap.size w W3:=⟨tc3.os.trans hbw.os,tc3.tape.trans hbw.tape,tc3.output.trans hbw.output,by omega,fun k hk=>(tc3.same k (by omega) (by have:=HF2.out.gqlo;show ¬(k=w.heap.size+1\/k=gq);omega)).trans (hbw.block k hk)⟩;have r2:=(tc3.same (w.heap.size+2) (by omega) (by show ¬(w.heap.size+2=w.heap.size+1\/w.heap.size+2=gq);omega)).trans hF2.r2;have r3:=(tc3.same (w.heap.size+3) (by omega) (by show ¬(w.heap.size+3=w.heap.size+1\/w.heap.size+3=gq);omega)).trans hF2.r3;obtain⟨W4,hW4⟩:∃W4,W3.alloc (.cells #[.int .i64 k',.int .i64 r',.int .i64 a',.int .i64 e',.slice so sm sc] 35)=W4:=⟨_,rfl⟩;have hb4:Below W3.heap.size W3 W4:=by rw[<-hW4];exact(Below.refl _ _).alloc (zvJ _) _
 have x4:W4.heap[W3.heap.size]?=some (.cells #[.int .i64 k',.int .i64 r',.int .i64 a',.int .i64 e',.slice so sm sc] 35 (0,0)):=by rw[<-hW4];exact zvZ _ _
 have hb4w:=zaa hb3 hb3.size hb4;have own4:=zac own3 hb4;have HW4:=hidR hW4;obtain⟨y0,y1,y2,y3,y4⟩:=zax x4;obtain⟨t0,t1,t2,t3,t4⟩:=zax (zag g3 hb4);have d2:=zaj (zag r2 hb4);have d3:=zaj (zag r3 hb4);have e2:∀o,W4.frozen? ⟨w.heap.size+2,o,none⟩=false:=fun o=>zvY _ _ o _ _ (zag r2 hb4)
 have e3:∀o,W4.frozen? ⟨w.heap.size+3,o,none⟩=false:=fun o=>zvY _ _ o _ _ (zag r3 hb4)
 have m1:W3.heap.size≠w.heap.size+1+1:=by omega
 have m2:w.heap.size+1+1≠W3.heap.size:=by omega
 have Hx:=hidR hx;have Hown:Hid (∀W':World,(∀k:Nat,k≠w.heap.size+2->k≠w.heap.size+3->W'.heap[k]?=W4.heap[k]?)->W'.ownsRow w.heap.size 71 2 (.slice so sm sc) sp.length (pv sp)):=fun W' hk=>zck (zav own4 fun k e=>by
  have:=(zaD own4 e).1;exact hk k (by omega) (by omega)) (by omega)
 clear c0 c1 c2 c3 f1 f2 f3 hnx hx own3 own4 tc3 g3 x4 r2 r3 hW4 hF2 HF2' HF2 q2 hSd
 go_upto_region 5 with fail
 rw[HW4.out];clear HW4
 go_region
 go_wp2;refine zvV (v:=.tuple #[.agg #[.int .i64 L',.string B',.bool C',.int .i64 S',.int .i64 N'],.agg #[.int .i64 k',.int .i64 r',.int .i64 a',.int .i64 e',.slice so sm sc]]) (by simp[results,Tryz.results10,go_sem,d2,d3]) rfl ?_;refine⟨⟨L',B',C',S',N'⟩,⟨k',r',a',e',sp⟩,Hx.out,.slice so sm sc,rfl,?_,?_⟩
 ·exact zmZ (Hown.out _ fun k h1 h2=>zj7 h1 h2 _ _ _ _ _ _ _ _ _ _)
 ·refine Below.drew ?_
  iterate 10 refine Below.setCell ?_ (by simp<;>omega) _
  exact hb4w
end
open Go
section
variable {P:Program} {md:Region.Mode} {ops:Array Oper} {Q:Exit->Act->World->Prop}
def zo7(md:Region.Mode)(ops:Array Oper):Bool:=(List.range ops.size).all fun i=>match ops[i]? with
 |some o=>o.guard.isNone&&o.after.all (fun e=>!Region.binds md e || decide (e.on<i))
 |none=>true
def cntU(l:Nat->Bool):Nat->Nat
 |0=>0
 |n+1=>cntU l n+(if l n=true then 0 else 1)
theorem zjM(l:Nat->Bool)(i:Nat):∀n,n<=i->cntU (fun j=>l j || j==i) n=cntU l n
 |0,_=>rfl
 |n+1,h=>by
  have e:(n==i)=false:=by simp;omega
  simp only[cntU,zjM l i n (by omega),e,Bool.or_false]
theorem zmw(l:Nat->Bool)(i:Nat)(hl:l i=false):∀n,i<n->cntU (fun j=>l j || j==i) n+1=cntU l n
 |0,h=>absurd h (zvQ _)
 |n+1,h=>by
  by_cases e:n=i
  ·subst e;simp[cntU,zjM l n n (Nat.le_refl _),hl]
  ·have e1:(n==i)=false:=by simpa using e
   have:=zmw l i hl n (by omega);simp only[cntU,e1,Bool.or_false];omega
theorem zjN(l:Nat->Bool):∀n,cntU l n=0->∀i,i<n->l i=true
 |0,_,i,h=>absurd h (zvQ _)
 |n+1,h,i,hi=>by
  simp only[cntU] at h
  by_cases hn:l n=true
  ·by_cases e:i=n
   ·rw[e];exact hn
   ·exact zjN l n (by omega) i (by omega)
  ·rw[zv2 hn] at h;omega
theorem zqo{listed:Array Bool}(hB:zo7 md ops=true)(hr:Region.ready md ops listed=[])(hs:listed.size=ops.size):∀n i,i<=n->i<ops.size->listed.getD i false=true:=by
 intro n
 induction n with
 |zero=>
  intro i hi hl;obtain rfl:i=0:=by omega
  cases h:listed.getD 0 false with
  |true=>rfl
  |false=>
   exfalso
   have hm:(0:Nat)∈Region.ready md ops listed:=by
    refine mem_ready.2 ⟨?_,ops[0],by simp[hl],fun e he hb=>?_⟩
    ·rw[zuE] at h ⊢;rw[zuF (by omega)] at h ⊢;exact h
    ·have h1:=zuP.1 hB 0 (zvu.2 hl);simp only[zuF hl,zuK,Array.all_eq_true'] at h1;have h2:=h1.2 e he;rw[hb] at h2;simp at h2
   rw[hr] at hm;cases hm
 |succ n ih=>
  intro i hi hl
  by_cases e1:i<=n
  ·exact ih i e1 hl
  ·cases h:listed.getD i false with
   |true=>rfl
   |false=>
    exfalso
    have hm:i∈Region.ready md ops listed:=by
     refine mem_ready.2 ⟨?_,ops[i],by simp[hl],fun e he hb=>?_⟩
     ·rw[zuE] at h ⊢;rw[zuF (by omega)] at h ⊢;exact h
     ·have h1:=zuP.1 hB i (zvu.2 hl);simp only[zuF hl,zuK,Array.all_eq_true'] at h1;have h2:=h1.2 e he;rw[hb] at h2;simp at h2;exact ih e.on (by omega) (by omega)
    rw[hr] at hm;cases hm
theorem zk0(J:(Nat->Bool)->Act->World->Prop)(hB:zo7 md ops=true)
  (hstep:∀l a w i o,J l a w->ops[i]?=some o->l i=false->(∀e∈o.after,Region.binds md e=true->l e.on=true)->o.wp P a w (fun a' w'=>J (fun j=>l j || j==i) a' w') Q)
  (hend:∀l a w,J l a w->(∀i,i<ops.size->l i=true)->Q .normal a w):
  ∀(fuel:Nat) (listed:Array Bool) (a:Act) (w:World),listed.size=ops.size->cntU (fun j=>listed.getD j false) ops.size<=fuel->J (fun j=>listed.getD j false) a w->wpAny P md ops Q fuel listed a w
 |0,listed,a,w,hs,hc,hJ=>by
  have hall:=zjN (fun j=>listed.getD j false) ops.size (by omega);refine⟨List.eq_nil_iff_forall_not_mem.2 fun j hj=>?_,hend _ a w hJ hall⟩;obtain⟨h1,o,ho,-⟩:=mem_ready.1 hj;have hj:j<ops.size:=(zuH.1 ho).1;have h2:=hall j hj;simp only[zuE,zuF (show j<listed.size by omega),Option.getD_some] at h1 h2;rw[h1] at h2;cases h2
 |fuel+1,listed,a,w,hs,hc,hJ=>by
  refine⟨fun hr=>hend _ a w hJ fun i hi=>zqo hB hr hs i i (zvJ _) hi,fun i hi=>?_⟩;obtain⟨h1,o,ho,hall⟩:=mem_ready.1 hi;have hil:i<ops.size:=(zuH.1 ho).1;have hg:=zuP.1 hB i (zvu.2 hil);simp only[ho,zuK] at hg;have hl:listed.getD i false=false:=by
   simp only[zuE,zuF (show i<listed.size by omega),Option.getD_some] at h1 ⊢;exact h1
  have hup:(fun j=>(listed.setIfInBounds i true).getD j false)=fun j=>listed.getD j false || j==i:=by
   funext j
   by_cases e:j=i
   ·subst e;simp[Array.getD_eq_getD_getElem?,show j<listed.size by omega]
   ·have e1:(j==i)=false:=by simpa using e
    simp[Array.getD_eq_getD_getElem?,Ne.symm e,e1]
  unfold wpOp;simp only[ho];rw[zv3 (by have:=hg.1;simp[Region.wanted];rw[Option.isNone_iff_eq_none.1 this])];refine .inl (Oper.wp_mono (fun a' w' hJ'=>?_) (hstep _ a w i o hJ ho hl hall));refine zk0 J hB hstep hend fuel _ a' w' (by simp[hs]) ?_ (by rw[hup];exact hJ');rw[hup];have:=zmw (fun j=>listed.getD j false) i hl ops.size hil;omega
theorem zoW(l:Nat->Bool):∀n,cntU l n<=n
 |0=>zvJ _
 |n+1=>by have:=zoW l n;simp only[cntU];split<;>omega
theorem zfs{id:Nat}{a:Act}{w:World}{all:List Oper}(J:(Nat->Bool)->Act->World->Prop)(hm:P.follows .mixedOrders=true)(hB:zo7 .any all.toArray=true)(h0:J (fun _=>false) a w.drew)
  (hstep:∀l a w i o,J l a w->all[i]?=some o->l i=false->(∀e∈o.after,Region.binds .any e=true->l e.on=true)->o.wp P a w (fun a' w'=>J (fun j=>l j || j==i) a' w') (zfB Q))
  (hend:∀l a w,J l a w->(∀i,i<all.length->l i=true)->Q .normal a w):(Code.region id all.toArray true).wp P Q a w:=by
 refine wp_mono (wp_region_any hm ?_) zcm;refine zk0 (Q:=zfB Q) J hB (fun l a w i o h1 h2=>hstep l a w i o h1 (by simpa using h2)) (fun l a w h1 h2=>?_) _ _ a w.drew (by simp) ?_ ?_
 ·rw[za5];exact hend l a w h1 (by simpa using h2)
 ·have:=zoW (fun j=>(Array.replicate all.toArray.size false).getD j false) all.toArray.size
  simpa using this
 ·have e:(fun j=>(Array.replicate all.toArray.size false).getD j false)=fun _=>false:=by
   funext j
   simp[Array.getD_eq_getD_getElem?,Array.getElem?_replicate];split<;>rfl
  rw[e];exact h0
theorem zsW{a b:Act}(h1:a.defers=b.defers)(h2:a.tmps.size=b.tmps.size)(h3:∀s,a.eval (.tmp s)=b.eval (.tmp s)):a=b:=by
 obtain⟨t1,d1⟩:=a;obtain⟨t2,d2⟩:=b;have e:t1=t2:=by
  apply Array.ext h2
  intro i hi1 hi2;have:=h3 i;simp only[Act.eval,zuE,zuF hi1,zuF hi2,Option.getD_some] at this;exact this
 subst e;simp only at h1;subst h1
 rfl
structure ActK(a0 a:Act)(D:List Nat):Prop where
 df:a.defers=a0.defers
 sz:a.tmps.size=a0.tmps.size
 ev:∀s,s∉D->a.eval (.tmp s)=a0.eval (.tmp s)
theorem ActK.refl(a:Act)(D:List Nat):ActK a a D:=⟨rfl,rfl,fun _ _=>rfl⟩
theorem ActK.put{a0 a:Act}{D:List Nat}(h:ActK a0 a D){d:Nat}(hd:d∈D)(v:Value):ActK a0 (a.put (some d) v) D:=
 ⟨h.df,by simp[Act.put,h.sz],fun s hs=>(Act.eval_put (fun e he=>by injection he with he;subst he;intro e2;injection e2 with e2;subst e2;exact hs hd)).trans (h.ev s hs)⟩
theorem za1{a:Act}{d:Nat}{v:Value}(h:d<a.tmps.size):(a.put (some d) v).eval (.tmp d)=v:=by
 simp[Act.put,Act.eval,h]
theorem zab{a:Act}{d s:Nat}{v:Value}(h:s≠d):(a.put (some d) v).eval (.tmp s)=a.eval (.tmp s):=
 Act.eval_put (fun e he=>by injection he with he;subst he;intro e2;injection e2 with e2;exact h e2)
theorem ziM:∀(ps:List (Nat×Value)) (a0 a:Act),ActK a0 a (ps.map Prod.fst)->(∀p∈ps,p.1<a0.tmps.size/\a.eval (.tmp p.1)=p.2)->a=ps.foldl (fun a p=>a.put (some p.1) p.2) a0
 |[],a0,a,h,_=>zsW h.df h.sz fun s=>h.ev s (by simp)
 |p::ps,a0,a,h,hv=>by
  have h1:=hv p (by simp);refine ziM ps (a0.put (some p.1) p.2) a ⟨h.df,by simp[Act.put,h.sz],fun s hs=>?_⟩ fun q hq=>⟨by simp[Act.put];exact(hv q (by simp[hq])).1,(hv q (by simp[hq])).2⟩
  by_cases e:s=p.1
  ·subst e;rw[za1 h1.1];exact h1.2
  ·rw[zab e];exact h.ev s (by simp only[zvn,zvp,not_or];exact⟨e,hs⟩)
end
end Go.Proofs.YtdimhpfiieepiaaGreatDoor
