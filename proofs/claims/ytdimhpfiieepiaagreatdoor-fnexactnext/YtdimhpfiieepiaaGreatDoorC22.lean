import Derived.Test.YtdimhpfiieepiaaGreatDoorC21
namespace Go.Proofs.YtdimhpfiieepiaaGreatDoor
open Proofs.Tryz
open Option renaming some->za,none->zb
open Value renaming slice->zc,int->zd,agg->zj
open RowKit renaming Hid->ze,Below->zi
open Obj renaming cells->zf
open Go renaming Value->zg,World->zh,Calls->zk,TypeId->zl
set_option maxHeartbeats 4000000
set_option maxRecDepth 100000
open Go.RowKit
section
attribute [local go_sem ↓] wp_at_zero wp_at_succ
theorem zqj(ns:List aM)(gX:0<ns.length)(h:(gB ns ns.length).length=1):(gB ns ns.length).getD 0 kj=aK ns (ns.length-1):=by
 obtain⟨m,hm⟩:∃m,ns.length=m+1:=⟨ns.length-1,by omega⟩;rw[hm]at h ⊢;rw[gB,PY]at h ⊢
 match hq:(gB ns m).take ((gB ns m).length-bi (ns.getD m .zero).kind),h with
 |[],_=>rfl
 |_::_,h=>simp at h
theorem zrh{lo:Nat}(v:zg)(ns:List aM)(w:zh)(hs:dU lo w v ns)(hn:ns.length<=1048576):
  zk prog 138 #[v] w λe w'=>zi w.heap.size w w'/\((tR ns=zb/\e=.returned (.tuple #[.nilIface,.bool false]))\/∃wt t x,tR ns=za wt/\e=.returned (.tuple #[.iface t x,.bool true])/\kO w' (.iface t x) (aK ns (ns.length-1)) wt):=by
 obtain⟨ao,cap,rfl,hm,hc⟩:=hs;obtain⟨i0,hi,bK,bh,bz⟩:=info_parts Tryz.zwE
 go_enter func138,ntmps138
 go_wp2
 go_loopw [4,12] (λs i wr=>∃(k:Nat) (st:List Int) (g sc:Nat) (xs:List zg),k<=ns.length/\i=zd .i64 k/\s=zc (za ⟨g,0,zb⟩) st.length sc/\zi w.heap.size w wr/\wr.ownsRow w.heap.size 184 1 (zc (za ⟨g,0,zb⟩) st.length sc) st.length xs/\r8 wr xs st (gB ns k)/\st.length<=k/\ze (mH ns []=mH (ns.drop k) st))
  (λ_ i _=>ns.length-(intOf i).toNat)
 case atStart=>exact⟨0,[],_,_,[],aZ _,rfl,rfl,au,zg2 _ _,⟨rfl,λj hj=>absurd hj (dk _),rfl⟩,ai _,rfl⟩
 case round=>
  obtain⟨k,st,g,sc,xs,hk,rfl,rfl,hb,az,fV,rK,HS⟩:=hrel;obtain⟨xj,fC,GC,te⟩:=qc az;unfold maxLen at te
  by_cases hlt:k<ns.length
  ·obtain⟨b,o,sv,nd,rfl,Hn,bu,c0,c1,c2,c3,c4,di⟩:=hc.elem hb hlt;have HD:ze _:=zhZ ns k hlt st nd Hn.out;obtain⟨kd,rs,mn,mx,gr⟩:=nd;simp only at c0 c2 c3 c4 di;obtain⟨bH,bI,rfl,hsm,jQ⟩:=di;have hz:=hb.size;have bB:zi w.heap.size w (wr.alloc (zf #[zd .i64 kd,.slice bH rs.length bI,zd .i64 mn,zd .i64 mx,zd .i64 gr] 149)):=hb.alloc hz _;have vT:dD lo (wr.alloc (zf #[zd .i64 kd,.slice bH rs.length bI,zd .i64 mn,zd .i64 mx,zd .i64 gr] 149)) (.slice bH rs.length bI) rs:=dD.below ⟨_,_,rfl,hsm,jQ⟩ (au);have qp:=zl0 kd
   by_cases eB:st.length<bi kd
   ·have l9:(st.length:Int)-(bi kd:Int)<0:=by omega
    go_wp2_with (go_at_call 155;refine(C5 _ _).mono ?_;rintro e w2 ⟨rfl,rfl⟩)
    go_ret2
    exact⟨bB,.inl ⟨by unfold tR;rw[HS.out,HD.out,aD (.inl eB)],rfl⟩⟩
   have CA:¬((st.length:Int)-(bi kd:Int)<0):=by omega
   by_cases pO:aX ⟨kd,rs,mn,mx,gr⟩=false
   ·go_wp2_with (first|(go_at_call 155;refine(C5 _ _).mono ?_;rintro e w2 ⟨rfl,rfl⟩)|(go_at_call 156;refine(EP _ _ _ _ _ _ _ vT).mono ?_;rintro e w3 ⟨rfl,ay⟩))
    go_ret2
    exact⟨aj bB bB.size ay,.inl ⟨by unfold tR;rw[HS.out,HD.out,aD (.inr pO)],rfl⟩⟩
   have mU:aX ⟨kd,rs,mn,mx,gr⟩=true:=by simpa using pO
   clear pO;have FM:ze (mH (ns.drop k) st=mH (ns.drop (k+1)) (xY st ⟨kd,rs,mn,mx,gr⟩)):=by show _=_;rw[HD.out,aq (by rintro (h|h);exact eB h;rw[h]at mU;cases mU)]
   clear HD
   by_cases iA:kd=2
   ·obtain⟨de,rfl,rfl,rfl⟩:=zmp mU (.inl iA);subst iA de;obtain⟨m,cD⟩:∃m,st.length=m+2:=⟨st.length-2,by have:bi 2=2:=rfl;omega⟩;have HM:ze _:=cD;rw[cD]at az GC rK ⊢;clear cD
    go_wp2_with (first|(go_at_call 155;refine(C5 _ _).mono ?_;rintro e w2 ⟨rfl,rfl⟩;rw[show bi 2=2 from rfl])|(go_at_call 156;refine(EP _ _ _ _ _ _ _ vT).mono ?_;rintro e w3 ⟨rfl,ay⟩))
    have lE:=cI (az.alloc _) ay;have uL:=ay.size;have fW:wr.heap.size<w3.heap.size:=bA (by simp) uL;have ij:=aj bB bB.size ay;obtain⟨t0,x0,fE,ja⟩:=fV.2.1 m (by have:=HM.out;omega);obtain⟨t1,x1,mj,fD⟩:=fV.2.1 (m+1) (by have:=HM.out;omega);have q0:w3.cell? ⟨g,m,zb⟩=za (.iface t0 x0):=(lE.cellAt m (by omega)).trans fE;have q1:w3.cell? ⟨g,m+1,zb⟩=za (.iface t1 x1):=(lE.cellAt (m+1) (by omega)).trans mj;clear fE mj;have e0:w3.cell? ⟨wr.heap.size,0,zb⟩=za (zd .i64 2):=(ay.cell (by simp)).trans (by simp);have e1:w3.cell? ⟨wr.heap.size,1,zb⟩=za (.slice bH 0 bI):=(ay.cell (by simp)).trans (by simp);have e2:w3.cell? ⟨wr.heap.size,2,zb⟩=za (zd .i64 0):=(ay.cell (by simp)).trans (by simp);have e3:w3.cell? ⟨wr.heap.size,3,zb⟩=za (zd .i64 0):=(ay.cell (by simp)).trans (by simp);have e4:w3.cell? ⟨wr.heap.size,4,zb⟩=za (zd .i64 0):=(ay.cell (by simp)).trans (by simp);have i1:(0:Int)<=(m:Int):=by omega
    have i2:(m:Int)<=((m+2:Nat):Int):=by omega
    have KX:(m:Int)<=(m:Int)+2:=by omega
    have i3:((m+2:Nat):Int)<=(sc:Int):=by omega
    have i4:(m:Int)+2<=(sc:Int):=by omega
    have i5:(m:Int)<=(sc:Int):=by omega
    have i6:¬sc=m:=by omega
    go_region_held3 (λw'=>w'.cell? ⟨wr.heap.size,0,zb⟩=za (zd .i64 2)/\w'.cell? ⟨wr.heap.size,1,zb⟩=za (.slice bH 0 bI)/\w'.cell? ⟨wr.heap.size,2,zb⟩=za (zd .i64 0)/\w'.cell? ⟨wr.heap.size,3,zb⟩=za (zd .i64 0)/\w'.cell? ⟨wr.heap.size,4,zb⟩=za (zd .i64 0)) ((first|go_keep|exact⟨(aG.cell (by exact fW)).trans e0,(aG.cell (by exact fW)).trans e1,(aG.cell (by exact fW)).trans e2,(aG.cell (by exact fW)).trans e3,(aG.cell (by exact fW)).trans e4⟩)) ((go_at_call 157;refine(zq8 _ _ _ _ _ g m (sc-m) w3.drew (by exact q0) (by exact q1)).mono ?_;rintro e w4 ⟨rfl,aG⟩))
    have kg:=A7 (cI (w:=w3.drew) lE aG) (show m<=m+2 by omega);have iX:=aj ij.drew ij.size aG
    go_wp2_with (refine pX w4 rfl (.tmp 36) (.tmp 38) 155 rfl w.heap.size 184 i0 _ 16 underlying155 hi bK bh bz rfl g sc m (xs.take m) _ rfl kg rfl rfl (by omega) (by omega) iX.size ?_;intro g' cap' w5 jv gu dg)
    go_roundw
    case rel=>
     obtain⟨kE,xs',hl,h1,h2,h3,h4⟩:=Ia (nd:=⟨2,[],0,0,0⟩) HM.out rfl rfl fV (tP (aj (aj (au) (by simp) ay).drew (aj (au) (by simp) ay).size aG) kg gu) Hn.out (show kO w5 _ (fY ⟨2,[],0,0,0⟩ ((gB ns k).drop m)) (kL ⟨2,[],0,0,0⟩ (st.drop m)) by rw[tn2,wn2,(Io st m).1,(Io st m).2,(Ih _ m).1,(Ih _ m).2];exact zq5 (ja.keep (tP (aj (aj (au) (by simp) ay).drew (aj (au) (by simp) ay).size aG) kg gu)) (fD.keep (tP (aj (aj (au) (by simp) ay).drew (aj (au) (by simp) ay).size aG) kg gu))) (by have:=HM.out;omega) jv HS.out FM.out;exact⟨k+1,kE,g',cap',xs',by omega,by go_num,by rw[hl],iX.grown gu iX.size (by intro q hq;cases hq;exact xj),h1,h2,h3,h4⟩
    case measure=>simp[intOf];omega
   by_cases nW:kd=3
   ·obtain⟨de,rfl,rfl,rfl⟩:=zmp mU (.inr nW);subst nW de;obtain⟨m,cD⟩:∃m,st.length=m+2:=⟨st.length-2,by have:bi 3=2:=rfl;omega⟩;have HM:ze _:=cD;rw[cD]at az GC rK ⊢;clear cD
    go_wp2_with (first|(go_at_call 155;refine(C5 _ _).mono ?_;rintro e w2 ⟨rfl,rfl⟩;rw[show bi 3=2 from rfl])|(go_at_call 156;refine(EP _ _ _ _ _ _ _ vT).mono ?_;rintro e w3 ⟨rfl,ay⟩))
    have lE:=cI (az.alloc _) ay;have uL:=ay.size;have fW:wr.heap.size<w3.heap.size:=bA (by simp) uL;have ij:=aj bB bB.size ay;obtain⟨t0,x0,fE,ja⟩:=fV.2.1 m (by have:=HM.out;omega);obtain⟨t1,x1,mj,fD⟩:=fV.2.1 (m+1) (by have:=HM.out;omega);have q0:w3.cell? ⟨g,m,zb⟩=za (.iface t0 x0):=(lE.cellAt m (by omega)).trans fE;have q1:w3.cell? ⟨g,m+1,zb⟩=za (.iface t1 x1):=(lE.cellAt (m+1) (by omega)).trans mj;clear fE mj;have e0:w3.cell? ⟨wr.heap.size,0,zb⟩=za (zd .i64 3):=(ay.cell (by simp)).trans (by simp);have e1:w3.cell? ⟨wr.heap.size,1,zb⟩=za (.slice bH 0 bI):=(ay.cell (by simp)).trans (by simp);have e2:w3.cell? ⟨wr.heap.size,2,zb⟩=za (zd .i64 0):=(ay.cell (by simp)).trans (by simp);have e3:w3.cell? ⟨wr.heap.size,3,zb⟩=za (zd .i64 0):=(ay.cell (by simp)).trans (by simp);have e4:w3.cell? ⟨wr.heap.size,4,zb⟩=za (zd .i64 0):=(ay.cell (by simp)).trans (by simp);have i1:(0:Int)<=(m:Int):=by omega
    have i2:(m:Int)<=((m+2:Nat):Int):=by omega
    have KX:(m:Int)<=(m:Int)+2:=by omega
    have i3:((m+2:Nat):Int)<=(sc:Int):=by omega
    have i4:(m:Int)+2<=(sc:Int):=by omega
    have i5:(m:Int)<=(sc:Int):=by omega
    have i6:¬sc=m:=by omega
    go_region_held3 (λw'=>w'.cell? ⟨wr.heap.size,0,zb⟩=za (zd .i64 3)/\w'.cell? ⟨wr.heap.size,1,zb⟩=za (.slice bH 0 bI)/\w'.cell? ⟨wr.heap.size,2,zb⟩=za (zd .i64 0)/\w'.cell? ⟨wr.heap.size,3,zb⟩=za (zd .i64 0)/\w'.cell? ⟨wr.heap.size,4,zb⟩=za (zd .i64 0)) ((first|go_keep|exact⟨(aG.cell (by exact fW)).trans e0,(aG.cell (by exact fW)).trans e1,(aG.cell (by exact fW)).trans e2,(aG.cell (by exact fW)).trans e3,(aG.cell (by exact fW)).trans e4⟩)) ((go_at_call 157;refine(zq6 _ _ _ _ _ g m (sc-m) w3.drew (by exact q0) (by exact q1)).mono ?_;rintro e w4 ⟨rfl,aG⟩))
    have kg:=A7 (cI (w:=w3.drew) lE aG) (show m<=m+2 by omega);have iX:=aj ij.drew ij.size aG
    go_wp2_with (refine pX w4 rfl (.tmp 36) (.tmp 38) 155 rfl w.heap.size 184 i0 _ 16 underlying155 hi bK bh bz rfl g sc m (xs.take m) _ rfl kg rfl rfl (by omega) (by omega) iX.size ?_;intro g' cap' w5 jv gu dg)
    go_roundw
    case rel=>
     obtain⟨kE,xs',hl,h1,h2,h3,h4⟩:=Ia (nd:=⟨3,[],0,0,0⟩) HM.out rfl rfl fV (tP (aj (aj (au) (by simp) ay).drew (aj (au) (by simp) ay).size aG) kg gu) Hn.out (show kO w5 _ (fY ⟨3,[],0,0,0⟩ ((gB ns k).drop m)) (kL ⟨3,[],0,0,0⟩ (st.drop m)) by rw[tn3,wn3,(Io st m).1,(Io st m).2,(Ih _ m).1,(Ih _ m).2];exact zq2 (ja.keep (tP (aj (aj (au) (by simp) ay).drew (aj (au) (by simp) ay).size aG) kg gu)) (fD.keep (tP (aj (aj (au) (by simp) ay).drew (aj (au) (by simp) ay).size aG) kg gu))) (by have:=HM.out;omega) jv HS.out FM.out;exact⟨k+1,kE,g',cap',xs',by omega,by go_num,by rw[hl],iX.grown gu iX.size (by intro q hq;cases hq;exact xj),h1,h2,h3,h4⟩
    case measure=>simp[intOf];omega
   by_cases Oa:kd=5
   ·subst Oa;obtain⟨de,rfl,rfl⟩:=zpt mU;subst de;obtain⟨m,cD⟩:∃m,st.length=m+1:=⟨st.length-1,by have:bi 5=1:=rfl;omega⟩;have HM:ze _:=cD;rw[cD]at az GC rK ⊢;clear cD
    go_wp2_with (first|(go_at_call 155;refine(C5 _ _).mono ?_;rintro e w2 ⟨rfl,rfl⟩;rw[show bi 5=1 from rfl])|(go_at_call 156;refine(EP _ _ _ _ _ _ _ vT).mono ?_;rintro e w3 ⟨rfl,ay⟩))
    have lE:=cI (az.alloc _) ay;have uL:=ay.size;have fW:wr.heap.size<w3.heap.size:=bA (by simp) uL;have ij:=aj bB bB.size ay;obtain⟨t0,x0,fE,ja⟩:=fV.2.1 m (by have:=HM.out;omega);have q0:w3.cell? ⟨g,m,zb⟩=za (.iface t0 x0):=(lE.cellAt m (by omega)).trans fE;clear fE;have e0:w3.cell? ⟨wr.heap.size,0,zb⟩=za (zd .i64 5):=(ay.cell (by simp)).trans (by simp);have e1:w3.cell? ⟨wr.heap.size,1,zb⟩=za (.slice bH 0 bI):=(ay.cell (by simp)).trans (by simp);have e2:w3.cell? ⟨wr.heap.size,2,zb⟩=za (zd .i64 0):=(ay.cell (by simp)).trans (by simp);have e3:w3.cell? ⟨wr.heap.size,3,zb⟩=za (zd .i64 0):=(ay.cell (by simp)).trans (by simp);have e4:w3.cell? ⟨wr.heap.size,4,zb⟩=za (zd .i64 gr):=(ay.cell (by simp)).trans (by simp);have i1:(0:Int)<=(m:Int):=by omega
    have i2:(m:Int)<=((m+1:Nat):Int):=by omega
    have KX:(m:Int)<=(m:Int)+1:=by omega
    have i3:((m+1:Nat):Int)<=(sc:Int):=by omega
    have i4:(m:Int)+1<=(sc:Int):=by omega
    have i5:(m:Int)<=(sc:Int):=by omega
    have i6:¬sc=m:=by omega
    go_region_held3 (λw'=>w'.cell? ⟨wr.heap.size,0,zb⟩=za (zd .i64 5)/\w'.cell? ⟨wr.heap.size,1,zb⟩=za (.slice bH 0 bI)/\w'.cell? ⟨wr.heap.size,2,zb⟩=za (zd .i64 0)/\w'.cell? ⟨wr.heap.size,3,zb⟩=za (zd .i64 0)/\w'.cell? ⟨wr.heap.size,4,zb⟩=za (zd .i64 gr)) ((first|go_keep|exact⟨(aG.cell (by exact fW)).trans e0,(aG.cell (by exact fW)).trans e1,(aG.cell (by exact fW)).trans e2,(aG.cell (by exact fW)).trans e3,(aG.cell (by exact fW)).trans e4⟩)) ((go_at_call 157;refine(zq7 _ _ _ _ g m (sc-m) w3.drew (by exact q0)).mono ?_;rintro e w4 ⟨rfl,aG⟩))
    have kg:=A7 (cI (w:=w3.drew) lE aG) (show m<=m+1 by omega);have iX:=aj ij.drew ij.size aG
    go_wp2_with (refine pX w4 rfl (.tmp 36) (.tmp 38) 155 rfl w.heap.size 184 i0 _ 16 underlying155 hi bK bh bz rfl g sc m (xs.take m) _ rfl kg rfl rfl (by omega) (by omega) iX.size ?_;intro g' cap' w5 jv gu dg)
    go_roundw
    case rel=>
     obtain⟨kE,xs',hl,h1,h2,h3,h4⟩:=Ia (nd:=⟨5,[],0,0,gr⟩) HM.out rfl rfl fV (tP (aj (aj (au) (by simp) ay).drew (aj (au) (by simp) ay).size aG) kg gu) Hn.out (show kO w5 _ (fY ⟨5,[],0,0,gr⟩ ((gB ns k).drop m)) (kL ⟨5,[],0,0,gr⟩ (st.drop m)) by rw[tn5,wn5,Pn,(Ih _ m).1];exact zq3 (ja.keep (tP (aj (aj (au) (by simp) ay).drew (aj (au) (by simp) ay).size aG) kg gu))) (by have:=HM.out;omega) jv HS.out FM.out;exact⟨k+1,kE,g',cap',xs',by omega,by go_num,by rw[hl],iX.grown gu iX.size (by intro q hq;cases hq;exact xj),h1,h2,h3,h4⟩
    case measure=>simp[intOf];omega
   by_cases N9:kd=4
   ·subst N9;obtain⟨de,dZ,rfl⟩:=VT mU;subst de;have HB:ze _:=dZ;clear dZ;obtain⟨m,cD⟩:∃m,st.length=m+1:=⟨st.length-1,by have:bi 4=1:=rfl;omega⟩;have HM:ze _:=cD;rw[cD]at az GC rK ⊢;clear cD
    go_wp2_with (first|(go_at_call 155;refine(C5 _ _).mono ?_;rintro e w2 ⟨rfl,rfl⟩;rw[show bi 4=1 from rfl])|(go_at_call 156;refine(EP _ _ _ _ _ _ _ vT).mono ?_;rintro e w3 ⟨rfl,ay⟩))
    have lE:=cI (az.alloc _) ay;have uL:=ay.size;have fW:wr.heap.size<w3.heap.size:=bA (by simp) uL;have ij:=aj bB bB.size ay;obtain⟨t0,x0,fE,ja⟩:=fV.2.1 m (by have:=HM.out;omega);have q0:w3.cell? ⟨g,m,zb⟩=za (.iface t0 x0):=(lE.cellAt m (by omega)).trans fE;obtain⟨p0,zwg,Kz,Tz⟩:=ja;have xw:aR w3.drew (.iface t0 x0) p0:=aR.keep (.of (aj (au) (by simp) ay).drew) _ _ zwg;clear zwg;clear fE;have e0:w3.cell? ⟨wr.heap.size,0,zb⟩=za (zd .i64 4):=(ay.cell (by simp)).trans (by simp);have e1:w3.cell? ⟨wr.heap.size,1,zb⟩=za (.slice bH 0 bI):=(ay.cell (by simp)).trans (by simp);have e2:w3.cell? ⟨wr.heap.size,2,zb⟩=za (zd .i64 mn):=(ay.cell (by simp)).trans (by simp);have e3:w3.cell? ⟨wr.heap.size,3,zb⟩=za (zd .i64 mx):=(ay.cell (by simp)).trans (by simp);have e4:w3.cell? ⟨wr.heap.size,4,zb⟩=za (zd .i64 0):=(ay.cell (by simp)).trans (by simp);have i1:(0:Int)<=(m:Int):=by omega
    have i2:(m:Int)<=((m+1:Nat):Int):=by omega
    have KX:(m:Int)<=(m:Int)+1:=by omega
    have i3:((m+1:Nat):Int)<=(sc:Int):=by omega
    have i4:(m:Int)+1<=(sc:Int):=by omega
    have i5:(m:Int)<=(sc:Int):=by omega
    have i6:¬sc=m:=by omega
    go_region_held3 (λw'=>w'.cell? ⟨wr.heap.size,0,zb⟩=za (zd .i64 4)/\w'.cell? ⟨wr.heap.size,1,zb⟩=za (.slice bH 0 bI)/\w'.cell? ⟨wr.heap.size,2,zb⟩=za (zd .i64 mn)/\w'.cell? ⟨wr.heap.size,3,zb⟩=za (zd .i64 mx)/\w'.cell? ⟨wr.heap.size,4,zb⟩=za (zd .i64 0)) ((first|go_keep|exact⟨(aG.cell (by exact fW)).trans e0,(aG.cell (by exact fW)).trans e1,(aG.cell (by exact fW)).trans e2,(aG.cell (by exact fW)).trans e3,(aG.cell (by exact fW)).trans e4⟩)) ((go_at_call 157;refine(zo7 _ _ p0 mn mx g m (sc-m) w3.drew (by exact q0) xw HB.out).mono ?_;rintro e w4 ⟨t4,x4,p4,rfl,Kw,AV,SR,aG⟩))
    have kg:=A7 (cI (w:=w3.drew) lE aG) (show m<=m+1 by omega);have iX:=aj ij.drew ij.size aG
    go_wp2_with (refine pX w4 rfl (.tmp 36) (.tmp 38) 155 rfl w.heap.size 184 i0 _ 16 underlying155 hi bK bh bz rfl g sc m (xs.take m) _ rfl kg rfl rfl (by omega) (by omega) iX.size ?_;intro g' cap' w5 jv gu dg)
    go_roundw
    case rel=>
     obtain⟨kE,xs',hl,h1,h2,h3,h4⟩:=Ia (nd:=⟨4,[],mn,mx,0⟩) HM.out rfl rfl fV (tP (aj (aj (au) (by simp) ay).drew (aj (au) (by simp) ay).size aG) kg gu) Hn.out (show kO w5 _ (fY ⟨4,[],mn,mx,0⟩ ((gB ns k).drop m)) (kL ⟨4,[],mn,mx,0⟩ (st.drop m)) by rw[tn4,wn4,Pn,(Ih _ m).1];exact zq4 Kz Tz (aR.keep (tP (Below.refl _ _) kg gu) _ _ Kw) AV SR) (by have:=HM.out;omega) jv HS.out FM.out;exact⟨k+1,kE,g',cap',xs',by omega,by go_num,by rw[hl],iX.grown gu iX.size (by intro q hq;cases hq;exact xj),h1,h2,h3,h4⟩
    case measure=>simp[intOf];omega
   have cM:kd=1:=by rcases VU mU with h|h|h|h|h<;>omega
   ·subst cM;obtain⟨de,rfl,rfl,rfl⟩:=zrs mU;have HR:ze _:=de;clear de iA nW N9 Oa;obtain⟨m,cD⟩:∃m,st.length=m+0:=⟨st.length-0,by have:bi 1=0:=rfl;omega⟩;have HM:ze _:=cD;rw[cD]at az GC rK ⊢;clear cD
    by_cases Su:m=sc
    ·subst Su
     go_wp2_with (first|(go_at_call 155;refine(C5 _ _).mono ?_;rintro e w2 ⟨rfl,rfl⟩;rw[show bi 1=0 from rfl])|(go_at_call 156;refine(EP _ _ _ _ _ _ _ vT).mono ?_;rintro e w3 ⟨rfl,ay⟩))
     have lE:=cI (az.alloc _) ay;have uL:=ay.size;have fW:wr.heap.size<w3.heap.size:=bA (by simp) uL;have ij:=aj bB bB.size ay;have e0:w3.cell? ⟨wr.heap.size,0,zb⟩=za (zd .i64 1):=(ay.cell (by simp)).trans (by simp);have e1:w3.cell? ⟨wr.heap.size,1,zb⟩=za (.slice bH rs.length bI):=(ay.cell (by simp)).trans (by simp);have e2:w3.cell? ⟨wr.heap.size,2,zb⟩=za (zd .i64 0):=(ay.cell (by simp)).trans (by simp);have e3:w3.cell? ⟨wr.heap.size,3,zb⟩=za (zd .i64 0):=(ay.cell (by simp)).trans (by simp);have e4:w3.cell? ⟨wr.heap.size,4,zb⟩=za (zd .i64 0):=(ay.cell (by simp)).trans (by simp);have qA:dD lo w3.drew (.slice bH rs.length bI) rs:=vT.below ay.drew;have i1:(0:Int)<=(m:Int):=by omega
     have i2:(m:Int)<=((m+0:Nat):Int):=by omega
     have KX:(m:Int)<=(m:Int)+0:=by omega
     have i3:((m+0:Nat):Int)<=(m:Int):=by omega
     have i4:(m:Int)+0<=(m:Int):=by omega
     have i5:(m:Int)<=(m:Int):=by omega
     go_region_held3 (λw'=>w'.cell? ⟨wr.heap.size,0,zb⟩=za (zd .i64 1)/\w'.cell? ⟨wr.heap.size,1,zb⟩=za (.slice bH rs.length bI)/\w'.cell? ⟨wr.heap.size,2,zb⟩=za (zd .i64 0)/\w'.cell? ⟨wr.heap.size,3,zb⟩=za (zd .i64 0)/\w'.cell? ⟨wr.heap.size,4,zb⟩=za (zd .i64 0)) ((first|go_keep|exact⟨(aG.cell (by exact fW)).trans e0,(aG.cell (by exact fW)).trans e1,(aG.cell (by exact fW)).trans e2,(aG.cell (by exact fW)).trans e3,(aG.cell (by exact fW)).trans e4⟩)) ((go_at_call 157;refine(zmc _ _ _ _ (qA) HR.out).mono ?_;rintro e w4 ⟨mg,rfl,Th,Ti,aG⟩))
     have kg:=A7 (cI (w:=w3.drew) lE aG) (show m<=m+0 by omega);have iX:=aj ij.drew ij.size aG
     go_wp2_with (refine pX w4 rfl (.tmp 36) (.tmp 38) 155 rfl w.heap.size 184 i0 _ 16 underlying155 hi bK bh bz rfl g m m (xs.take m) _ rfl kg rfl rfl (by omega) (by omega) iX.size ?_;intro g' cap' w5 jv gu dg)
     go_roundw
     case rel=>
      obtain⟨kE,xs',hl,h1,h2,h3,h4⟩:=Ia (nd:=⟨1,rs,0,0,0⟩) HM.out rfl rfl fV (tP (aj (aj (au) (by simp) ay).drew (aj (au) (by simp) ay).size aG) kg gu) Hn.out (show kO w5 _ (fY ⟨1,rs,0,0,0⟩ ((gB ns k).drop m)) (kL ⟨1,rs,0,0,0⟩ (st.drop m)) by rw[tn1,wn1];exact(zmb Ti).keep (tP (Below.refl _ _) kg gu)) (by have:=HM.out;omega) jv HS.out FM.out;exact⟨k+1,kE,g',cap',xs',by omega,by go_num,by rw[hl],iX.grown gu iX.size (by intro q hq;cases hq;exact xj),h1,h2,h3,h4⟩
     case measure=>simp[intOf];omega
    ·have zzW:¬sc=m:=λh=>Su h.symm
     clear Su
     go_wp2_with (first|(go_at_call 155;refine(C5 _ _).mono ?_;rintro e w2 ⟨rfl,rfl⟩;rw[show bi 1=0 from rfl])|(go_at_call 156;refine(EP _ _ _ _ _ _ _ vT).mono ?_;rintro e w3 ⟨rfl,ay⟩))
     have lE:=cI (az.alloc _) ay;have uL:=ay.size;have fW:wr.heap.size<w3.heap.size:=bA (by simp) uL;have ij:=aj bB bB.size ay;have e0:w3.cell? ⟨wr.heap.size,0,zb⟩=za (zd .i64 1):=(ay.cell (by simp)).trans (by simp);have e1:w3.cell? ⟨wr.heap.size,1,zb⟩=za (.slice bH rs.length bI):=(ay.cell (by simp)).trans (by simp);have e2:w3.cell? ⟨wr.heap.size,2,zb⟩=za (zd .i64 0):=(ay.cell (by simp)).trans (by simp);have e3:w3.cell? ⟨wr.heap.size,3,zb⟩=za (zd .i64 0):=(ay.cell (by simp)).trans (by simp);have e4:w3.cell? ⟨wr.heap.size,4,zb⟩=za (zd .i64 0):=(ay.cell (by simp)).trans (by simp);have qA:dD lo w3.drew (.slice bH rs.length bI) rs:=vT.below ay.drew;have i1:(0:Int)<=(m:Int):=by omega
     have i2:(m:Int)<=((m+0:Nat):Int):=by omega
     have KX:(m:Int)<=(m:Int)+0:=by omega
     have i3:((m+0:Nat):Int)<=(sc:Int):=by omega
     have i4:(m:Int)+0<=(sc:Int):=by omega
     have i5:(m:Int)<=(sc:Int):=by omega
     go_region_held3 (λw'=>w'.cell? ⟨wr.heap.size,0,zb⟩=za (zd .i64 1)/\w'.cell? ⟨wr.heap.size,1,zb⟩=za (.slice bH rs.length bI)/\w'.cell? ⟨wr.heap.size,2,zb⟩=za (zd .i64 0)/\w'.cell? ⟨wr.heap.size,3,zb⟩=za (zd .i64 0)/\w'.cell? ⟨wr.heap.size,4,zb⟩=za (zd .i64 0)) ((first|go_keep|exact⟨(aG.cell (by exact fW)).trans e0,(aG.cell (by exact fW)).trans e1,(aG.cell (by exact fW)).trans e2,(aG.cell (by exact fW)).trans e3,(aG.cell (by exact fW)).trans e4⟩)) ((go_at_call 157;refine(zmc _ _ _ _ (qA) HR.out).mono ?_;rintro e w4 ⟨mg,rfl,Th,Ti,aG⟩))
     have kg:=A7 (cI (w:=w3.drew) lE aG) (show m<=m+0 by omega);have iX:=aj ij.drew ij.size aG
     go_wp2_with (refine pX w4 rfl (.tmp 36) (.tmp 38) 155 rfl w.heap.size 184 i0 _ 16 underlying155 hi bK bh bz rfl g sc m (xs.take m) _ rfl kg rfl rfl (by omega) (by omega) iX.size ?_;intro g' cap' w5 jv gu dg)
     go_roundw
     case rel=>
      obtain⟨kE,xs',hl,h1,h2,h3,h4⟩:=Ia (nd:=⟨1,rs,0,0,0⟩) HM.out rfl rfl fV (tP (aj (aj (au) (by simp) ay).drew (aj (au) (by simp) ay).size aG) kg gu) Hn.out (show kO w5 _ (fY ⟨1,rs,0,0,0⟩ ((gB ns k).drop m)) (kL ⟨1,rs,0,0,0⟩ (st.drop m)) by rw[tn1,wn1];exact(zmb Ti).keep (tP (Below.refl _ _) kg gu)) (by have:=HM.out;omega) jv HS.out FM.out;exact⟨k+1,kE,g',cap',xs',by omega,by go_num,by rw[hl],iX.grown gu iX.size (by intro q hq;cases hq;exact xj),h1,h2,h3,h4⟩
     case measure=>simp[intOf];omega
  ·have bC:k=ns.length:=by omega
   have HF:ze (mH ns []=za st):=by show _=_;rw[HS.out,sA (by omega)];rfl
   by_cases rO:st.length=1
   ·obtain⟨t0,x0,fE,ja⟩:=fV.2.1 0 (by omega);rw[rO]at az ⊢;have q0:wr.cell? ⟨g,0,zb⟩=za (.iface t0 x0):=(az.cellAt 0 (by omega)).trans fE;have Jg:ze _:=rO;have XP:ze ((gB ns k).length=1):=by show _=_;rw[fV.2.2];exact Jg.out
    clear rO fE;go_wp2
    go_ret2
    refine⟨hb,.inr ⟨st.getD 0 0,t0,x0,?_,rfl,?_⟩⟩
    rotate_left
    ·rw[bC]at ja XP;rw[zqj ns (by have:=Jg.out;omega) XP.out]at ja;exact ja
    unfold tR;rw[HF.out]
    match st,Jg.out with
    |[a],_=>rfl
   ·have hne:(((st.length:Nat):Int) != 1)=true:=by rw[bne_iff_ne];omega
    have Jg:ze _:=rO;clear rO;go_wp2
    go_ret2
    refine⟨hb,.inl ⟨?_,rfl⟩⟩;unfold tR;rw[HF.out]
    match st,Jg.out with
    |[],_=>rfl
    |[a],h=>exact absurd rfl h
    |_::_::_,_=>rfl
end
section
variable {w:zh}{xs:List zg}{st:List Int}{ts:List Pt}{lo:Nat}
attribute [local go_sem ↓] wp_at_zero wp_at_succ
def sg(bs:List aW):List Pt:=bs.map λb=>aK b.nodes (b.nodes.length-1)
theorem zhN(bs:List aW):(sg bs).length=bs.length:=by simp[sg]
theorem r8.keep{w':zh}(h:r8 w xs st ts)(hk:bR w w'):r8 w' xs st ts:=
 ⟨h.1,λj hj=>by obtain⟨t,x,h1,h2⟩:=h.2.1 j hj;exact⟨t,x,h1,h2.keep hk⟩,h.2.2⟩
theorem zn6{bs:List aW}{k:Nat}(h:r8 w xs st ((sg bs).take k))(hk:k<bs.length)(hst:st.length=k){t:zl}{x:zg}{wt:Int}
  (hp:kO w (.iface t x) (aK (bs.getD k .zero).nodes ((bs.getD k .zero).nodes.length-1)) wt):r8 w (xs++[.iface t x]) (st++[wt]) ((sg bs).take (k+1)):=by
 have hb:=zhN bs;have hx:=h.1;refine⟨by simp[hx],λj hj=>?_,by simp;omega⟩;simp only[pz,qg,oA]at hj
 by_cases e:j=k
 ·subst e;refine⟨t,x,?_,?_⟩
  ·rw[vo (by omega),hx,hst,zz];rfl
  ·have e1:(st++[wt]).getD j 0=wt:=by rw[cL,vo (by omega),hst,zz];rfl
   have e2:((sg bs).take (j+1)).getD j kj=aK (bs.getD j .zero).nodes ((bs.getD j .zero).nodes.length-1):=by
    rw[cL,Bw,aD (by omega)];simp[sg,hk]
   rw[e1,e2];exact hp
 ·obtain⟨t',x',h1,h2⟩:=h.2.1 j (by omega);refine⟨t',x',by rw[qR (by omega)];exact h1,?_⟩;have e1:(st++[wt]).getD j 0=st.getD j 0:=by rw[cL,qR (by omega),cL]
  have e2:((sg bs).take (k+1)).getD j kj=((sg bs).take k).getD j kj:=by
   rw[cL,cL,Bw,Bw,aD (by omega),aD (by omega)]
  rw[e1,e2];exact h2
def Di:Pt->Nat
 |.set _=>1
 |.seq l r=>Di l+Di r+1
 |.aQ l r=>Di l+Di r+1
 |.aw b _ _=>Di b+1
 |.aT b _=>Di b+1
theorem EZ:∀(p:Pt) (v:zg),aR w v p->fZ (Di p) v (aF p)
 |.set _,_,⟨_,h,_⟩=>.inl ⟨_,h,rfl⟩
 |.seq l r,_,⟨lv,rv,h,h1,h2⟩=>.inr (.inl ⟨lv,rv,_,_,h,fZ.mono _ _ _ _ (Nat.le_add_right _ _) (EZ l lv h1),fZ.mono _ _ _ _ (Nat.le_add_left _ _) (EZ r rv h2),rfl⟩)
 |.aQ l r,_,⟨lv,rv,h,h1,h2⟩=>.inr (.inr (.inl ⟨lv,rv,_,_,h,fZ.mono _ _ _ _ (Nat.le_add_right _ _) (EZ l lv h1),fZ.mono _ _ _ _ (Nat.le_add_left _ _) (EZ r rv h2),rfl⟩))
 |.aw b mn mx,_,⟨lv,h,h1,h2⟩=>.inr (.inr (.inr (.inl ⟨lv,_,mn,mx,h,EZ b lv h1,h2,rfl⟩)))
 |.aT b g,_,⟨lv,h,h1⟩=>.inr (.inr (.inr (.inr ⟨lv,g,h,EZ b lv h1⟩)))
theorem r8.parts(h:r8 w xs st ts):∃N,IH N xs st:=by
 have key:∀m,m<=st.length->∃N,∀j,j<m->∃t x,xs[j]?=za (.iface t x)/\fZ N (.iface t x) (st.getD j 0):=by
  intro m
  induction m with
  |zero=>intro _;exact⟨0,λj hj=>absurd hj (dk _)⟩
  |succ m ih=>
   intro hm;obtain⟨N,hN⟩:=ih (by omega);obtain⟨t,x,hx,p,hp,hw,_⟩:=h.2.1 m (by omega);refine⟨N+Di p,λj hj=>?_⟩
   by_cases e:j=m
   ·subst e;exact⟨t,x,hx,by rw[<-hw];exact fZ.mono _ _ _ _ (Nat.le_add_left _ _) (EZ p _ hp)⟩
   ·obtain⟨t',x',h1,h2⟩:=hN j (by omega);exact⟨t',x',h1,fZ.mono _ _ _ _ (Nat.le_add_right _ _) h2⟩
 obtain⟨N,hN⟩:=key st.length (ai _);exact⟨N,h.1,hN⟩
theorem zge(v:zg)(bs:List aW)(w:zh)(hs:eh lo w v bs)(hsm:Small bs):
  zk prog 120 #[v] w λe w'=>zi w.heap.size w w'/\((jz bs=zb/\e=.returned (.tuple #[zc zb 0 0,.bool false]))\/
   ∃(st:List Int) (xs:List zg) (g sc:Nat),jz bs=za st/\st.length=bs.length/\e=.returned (.tuple #[zc (za ⟨g,0,zb⟩) st.length sc,.bool true])/\w'.ownsRow w.heap.size 184 1 (zc (za ⟨g,0,zb⟩) st.length sc) st.length xs/\r8 w' xs st (sg bs)):=by
 obtain⟨ao,cap,rfl,hm,hc⟩:=hs;have hn:=hsm.1;obtain⟨i0,hi,bK,bh,bz⟩:=info_parts Tryz.zwE
 go_enter func120,ntmps120
 go_wp2_with (refine wpList_make_own _ rfl _ _ 155 rfl w.heap.size 184 i0 _ 1 underlying155 hi bK bh _ _ _ bs.length rfl rfl rfl (by rw[bz];omega) (by unfold maxLen;omega) (ai _) ?_;intro w1 az eF)
 have ed:zi w.heap.size w w1:=(Below.refl _ _).grown eF (ai _) (by intro k h;cases h);clear eF
 go_loopw [4,14] (λs i wr=>∃(k:Nat) (st:List Int) (g sc:Nat) (xs:List zg),k<=bs.length/\st.length=k/\i=zd .i64 k/\s=zc (za ⟨g,0,zb⟩) st.length sc/\zi w.heap.size w wr/\wr.ownsRow w.heap.size 184 1 (zc (za ⟨g,0,zb⟩) st.length sc) st.length xs/\r8 wr xs st ((sg bs).take k)/\ze (jz bs=(jz (bs.drop k)).map (st ++ ·)))
  (λ_ i _=>bs.length-(intOf i).toNat)
 case atStart=>exact⟨0,[],_,_,[],aZ _,rfl,rfl,rfl,ed,az,⟨rfl,λj hj=>absurd hj (dk _),rfl⟩,by show _=_;simp⟩
 case round=>
  obtain⟨k,st,g,sc,xs,hk,TN,rfl,rfl,hb,az,fV,HS⟩:=hrel;obtain⟨xj,fC,GC,te⟩:=qc az;have HK:ze (st.length=k):=TN
  by_cases hlt:k<bs.length
  ·obtain⟨b,o,nv,bd,rfl,Hn,bu,c0,c1,c2,io⟩:=hc.elem hb hlt;have hz:=hb.size;have uG:bd.nodes.length<=1048576:=by have:=(hsm.2 k hlt).1;rw[Hn.out]at this;exact this
   obtain⟨dC,mo,rfl,kz,kU⟩:=io;have bB:zi w.heap.size w (wr.alloc (zf #[.bool bd.aV,.bool bd.bm,.slice dC bd.nodes.length mo] 115)):=hb.alloc hz _;have GU:dU lo (wr.alloc (zf #[.bool bd.aV,.bool bd.bm,.slice dC bd.nodes.length mo] 115)) (.slice dC bd.nodes.length mo) bd.nodes:=dU.below ⟨_,_,rfl,kz,kU⟩ (au);generalize hdd:st.length=d at *;have Yg:ze _:=hdd;clear hdd;subst TN
   go_wp2_with fail
   refine(zrh _ _ _ GU uG).mono ?_;rintro e w2 ⟨af,⟨hf,rfl⟩|⟨wt,t,x,hf,rfl,hp⟩⟩
   ·have Hf:ze _:=hf;clear hf;go_wp2
    go_ret2
    refine⟨aj bB bB.size af,.inl ⟨?_,rfl⟩⟩;rw[HS.out,zjR bs _ hlt bd Hn.out Hf.out]
    rfl
   ·have Hf:ze _:=hf;clear hf;have kV:=cI (az.alloc (zf #[.bool bd.aV,.bool bd.bm,.slice dC bd.nodes.length mo] 115)) af;have rH:=aj bB bB.size af
    go_wp2_with (refine pX w2 rfl (.tmp 26) (.tmp 28) 155 rfl w.heap.size 184 i0 _ 16 underlying155 hi bK bh bz rfl g sc d xs _ rfl kV rfl rfl (by omega) (by omega) rH.size ?_;intro g' cap' w5 jv gu dg)
    go_roundw
    case rel=>
     have hl:(st++[wt]).length=d+1:=by have:=Yg.out;simp;omega
     have hK:bR wr w2:=bR.of (aj (au) (by simp) af);obtain⟨aA,Cq⟩:=PH kV;have hG:bR w2 w5:=bR.grown gu Cq (by decide);have vS:r8 w5 (xs++[.iface t x]) (st++[wt]) ((sg bs).take (d+1)):=by
      refine zn6 (fV.keep (hK.trans hG)) hlt (by have:=Yg.out;omega) ?_;rw[Hn.out];exact hp.keep hG
     exact⟨d+1,st++[wt],g',cap',xs++[.iface t x],by omega,hl,by go_num,by rw[hl],rH.grown gu rH.size (by intro q hq;cases hq;exact xj),by rw[hl];exact jv,vS,zjT HS.out (zjS bs _ hlt bd Hn.out wt Hf.out)⟩
    case measure=>simp[intOf];omega
  ·have bC:bs.drop k=[]:=sA (by omega);have zv8:st.length=bs.length:=by omega
   have Jf:ze _:=zv8;clear TN zv8;go_wp2
   go_ret2
   refine⟨hb,.inr ⟨st,xs,g,sc,?_,Jf.out,rfl,az,by rw[wL (by rw[zhN];omega)]at fV;exact fV⟩⟩;rw[HS.out,bC];simp[jz]
def ztW(w:zh)(G:Int)(bs:List aW)(e:Ending)(w':zh):Prop:=
 zi w.heap.size w w'/\((qf G bs=false/\∃pv,e=.returned (.tuple #[pv,.bool false]))\/(qf G bs=true/\∃(st:List Int) (xs:List zg) (B g sc:Nat),jz bs=za st/\st.length=bs.length/\iF st<=2000/\e=.returned (.tuple #[zc (za ⟨g,0,zb⟩) st.length sc,.bool true])/\w'.ownsRow B 184 1 (zc (za ⟨g,0,zb⟩) st.length sc) st.length xs/\r8 w' xs st (sg bs)))
theorem zjU(G:Int)(v:zg)(bs:List aW)(w:zh)(hs:eh lo w v bs)(hsm:Small bs):
  zk prog 96 #[zj #[v,zd .i64 G]] w λe w'=>ztW w G bs e w':=by
 have hn:=hsm.1;have bX:=hs;obtain⟨ao,cap,rfl,hm,hc⟩:=hs;have ae:zi w.heap.size w (w.alloc (zf #[.slice ao bs.length cap,zd .i64 G] 69)):=au;have zI:∀{b:Bool},qf G bs=b->ze (qf G bs=b):=λh=>h
 by_cases h1:(bs.length:Int)<1
 ·have H:=zI (b:=false) (by simp[qf];omega);clear zI
  go_enter func96,ntmps96
  go_wp2
  go_ret2
  exact⟨ae,.inl ⟨H.out,_,rfl⟩⟩
 by_cases h2:2000<(bs.length:Int)
 ·have H:=zI (b:=false) (by simp[qf];omega);clear zI
  go_enter func96,ntmps96
  go_wp2
  go_ret2
  exact⟨ae,.inl ⟨H.out,_,rfl⟩⟩
 by_cases h3:G<0
 ·have H:=zI (b:=false) (by simp[qf];omega);clear zI
  go_enter func96,ntmps96
  go_wp2
  go_ret2
  exact⟨ae,.inl ⟨H.out,_,rfl⟩⟩
 by_cases h4:500<G
 ·have H:=zI (b:=false) (by simp[qf];omega);clear zI
  go_enter func96,ntmps96
  go_wp2
  go_ret2
  exact⟨ae,.inl ⟨H.out,_,rfl⟩⟩
 have HA:ze (qf G bs=(decide (ir bs<=5000)&&px G [] (fP bs)&&match jz bs with
  |none=>false
  |some st=>decide (iF st<=2000))):=by
  show _=_;unfold qf;have e1:decide (1<=bs.length/\bs.length<=2000)=true:=by simp;omega
  have e2:decide (0<=G/\G<=500)=true:=by simp;omega
  rw[e1,e2];simp only[kM];cases jz bs<;>rfl
 clear zI;have kU:=O5 hsm bs.length (ai _);rw[wK]at kU
 go_enter func96,ntmps96
 go_wp2_with fail
 refine(zix _ bs _ (bX.below ae) hsm).mono ?_;rintro e w1 ⟨rfl,ak⟩;have k0:w1.cell? ⟨w.heap.size,0,zb⟩=za (.slice ao bs.length cap):=(ak.cell (by simp)).trans (by simp);have k1:w1.cell? ⟨w.heap.size,1,zb⟩=za (zd .i64 G):=(ak.cell (by simp)).trans (by simp);have bh:w.heap.size<w1.heap.size:=bA (by simp) ak.size;have Ay:=aj ae ae.size ak
 by_cases h5:5000<(ir bs:Int)
 ·have H:ze (qf G bs=false):=by
   show _=_;rw[HA.out];have:decide (ir bs<=5000)=false:=by simp;omega
   rw[this];simp
  clear HA;go_wp2
  go_ret2
  exact⟨Ay,.inl ⟨H.out,_,rfl⟩⟩
 go_wp2_with fail
 refine(zla G _ bs _ (bX.below Ay) hsm (by omega) (by omega)).mono ?_;rintro e w2 ⟨rfl,af⟩;have m0:w2.cell? ⟨w.heap.size,0,zb⟩=za (.slice ao bs.length cap):=(af.cell (by exact bh)).trans k0;have rH:=aj Ay Ay.size af;have bz:w.heap.size<w2.heap.size:=bA bh af.size;have e5:decide (ir bs<=5000)=true:=by simp;omega
 rw[e5,kM]at HA;clear e5 k0 k1 ak af
 by_cases h6:px G [] (fP bs)=false
 ·have H:ze (qf G bs=false):=by show _=_;rw[HA.out,h6];simp
  clear HA;go_wp2
  go_ret2
  exact⟨rH,.inl ⟨H.out,_,rfl⟩⟩
 have h6':px G [] (fP bs)=true:=by simpa using h6
 clear h6;rw[h6',kM]at HA
 go_wp2_with fail
 refine(zge _ bs _ (bX.below rH) hsm).mono ?_;rintro e w3 ⟨ay,⟨hf,rfl⟩|⟨st,xs,g,sc,hf,hl,rfl,az,zww⟩⟩
 ·have H:ze (qf G bs=false):=by show _=_;rw[HA.out,hf]
  clear HA hf;go_wp2
  go_ret2
  exact⟨aj rH rH.size ay,.inl ⟨H.out,_,rfl⟩⟩
 ·have H:ze (qf G bs=decide (iF st<=2000)):=by show _=_;rw[HA.out,hf]
  have hst:st.length<=2000000:=by omega
  obtain⟨N,fV⟩:=zww.parts;have Hf:ze _:=hf;have Hl:ze _:=hl;clear HA hf hl;have ij:=aj rH rH.size ay;have AU:=LX fV st.length (ai _);rw[wK]at AU
  by_cases h7:2000<iF st
  ·go_wp2_with fail
   refine(Ve st xs _ az fV hst).mono ?_;rintro e w4 ⟨rfl,aG⟩;go_wp2
   go_ret2
   exact⟨aj ij ij.size aG,.inl ⟨by rw[H.out];simp;omega,_,rfl⟩⟩
  ·go_wp2_with fail
   refine(Ve st xs _ az fV hst).mono ?_;rintro e w4 ⟨rfl,aG⟩;go_wp2
   go_ret2
   exact⟨aj ij ij.size aG,.inr ⟨by rw[H.out];simp;omega,st,xs,_,g,sc,Hf.out,Hl.out,by omega,rfl,cI az aG,zww.keep (bR.of aG)⟩⟩
end
variable {b c:Bool}{g nw n bt ga gl ha hl:Nat}{w W:zh}{T fr A L A' L':Nat -> Nat}{sv fv:zg}{F:Nat -> Nat -> Nat}
theorem bP{a b:Array zg}{t u:zl}{f g:Nat×Nat}(h:za (Obj.cells a t f)=za (Obj.cells b u g)):t=u:=by
 injection h with h
 injection h
theorem zr9{k:Nat}(hB:fG w)(h:aH w nw k T):k≠0:=by
 rintro rfl;have h1:=hB 0 (by omega);rw[aO _ _ _ _ _ _ h.row]at h1
 by_cases hn:0<nw
 ·rw[Pj _ _ hn]at h1;cases h1
 ·rw[Ms (by simp[kK];omega)]at h1;cases h1
theorem qa(hB:fG w):0<w.heap.size:=block_lt_of_cell (hB 0 (by omega))
structure nL(w:zh)(n nw bt:Nat)(sv fv:zg)(fr:Nat->Nat)(F:Nat->Nat->Nat):Prop where
 box:vf w bt nw sv fv
 fv:0<n->∃(gf cf:Nat) (aA:Array zg),fv=zc (za ⟨gf,0,zb⟩) n cf/\w.heap[gf]?=za (zf aA 193 (0,0))/\∀p,p<n->aA[p]?=za (zc (za ⟨fr p,0,zb⟩) nw nw)
 fol:FH w n nw fr F
 kC:n<=64*nw
 gY:nw<=1000
 dR:fG w
theorem nL.turn{S:Nat->Prop}{F':Nat->Nat->Nat}(h:nL w n nw bt sv fv fr F)(t:aE S w W)(hS:∀k,k<w.heap.size->S k->∃m T,aH w m k T)(hf:FH W n nw fr F'):nL W n nw bt sv fv fr F':=by
 have GN:∀(k:Nat) (o:Obj),w.heap[k]?=za o->(∀m T,¬aH w m k T)->W.heap[k]?=za o:=λk o hk hn=>by
  have hlt:=(ap.1 hk).1;refine(t.same k hlt (λhs=>?_)).trans hk;obtain⟨m,T,hp⟩:=hS k hlt hs;exact hn m T hp
 refine⟨?_,λhn=>?_,hf,h.kC,h.gY,?_⟩
 ·exact GN _ _ h.box (λm T hp=>by have:=hp.row;rw[h.box]at this;exact absurd (bP this) (by decide))
 ·obtain⟨gf,cf,aA,h1,h2,h3⟩:=h.fv hn;exact⟨gf,cf,aA,h1,GN _ _ h2 (λm T hp=>by have:=hp.row;rw[h2]at this;exact absurd (bP this) (by decide)),h3⟩
 ·refine h.dR.keep (t.same 0 (qa h.dR) (λhs=>?_));obtain⟨m,T,hp⟩:=hS 0 (qa h.dR) hs;exact zr9 h.dR hp rfl
theorem zmi(n nw bt g1 c1 g2 c2:Nat)(sv fv:zg)(fr:Nat->Nat)(F:Nat->Nat->Nat)(T1 T2:Nat->Nat)(w:zh)(h:nL w n nw bt sv fv fr F)(h1:aH w nw g1 T1)(h2:aH w nw g2 T2)
  (oV:∀p,p<n->fr p≠g1) (lz:∀p,p<n->fr p≠g2) (hm:∀p,p<64*nw->ax T1 p=true->p<n):
  zk prog 202 #[.pointer (za ⟨bt,0,zb⟩),zc (za ⟨g1,0,zb⟩) nw c1,zc (za ⟨g2,0,zb⟩) nw c2] w λe w'=>e=.returned (.tuple #[])/\nL w' n nw bt sv fv fr (λp=>if ax T1 p=true then eD (F p) T2 else F p)/\aE (λk=>∃p,p<n/\k=fr p) w w':=by
 refine(zsT n nw bt g1 c1 g2 c2 sv fv fr F T1 T2 w h.box (λhn=>?_) h.fol h1 h2 oV lz (λp hp=>zr9 h.dR (h.fol.rows p hp)) (λp hp e=>?_) hm h.kC h.gY h.dR (qa h.dR)).mono λe w' hw=>⟨hw.1,h.turn hw.2.2 (λk _ ⟨p,hp,e⟩=>⟨nw,F p,e ▸ h.fol.rows p hp⟩) hw.2.1,hw.2.2⟩
 ·obtain⟨gf,cf,aA,k1,k2,k3⟩:=h.fv hn;refine⟨gf,cf,k1,(ap.1 k2).1,λp hp=>by rw[aO _ _ _ _ _ _ k2];exact k3 p hp,λp hp e=>?_⟩;have:=(h.fol.rows p hp).row;rw[e,k2]at this;exact absurd (bP this) (by decide)
 ·have:=(h.fol.rows p hp).row;rw[e,h.box]at this;exact absurd (bP this) (by decide)
def Xj(w:zh)(n nw bt:Nat)(sv fv:zg)(fr:Nat->Nat)(F:Nat->Nat->Nat)(ga hl:Nat)(b:Bool)(A L:Nat->Nat)(e:Ending)(w':zh):Prop:=
 e=.returned (zj #[.bool b,zc (za ⟨ga,0,zb⟩) nw nw,zc (za ⟨hl,0,zb⟩) nw nw])/\mI w' nw ga hl A L/\nL w' n nw bt sv fv fr F/\aE (λk=>k=ga\/k=hl\/∃p,p<n/\k=fr p) w w'
theorem nL.join(h:nL w n nw bt sv fv fr F)(hg:w.grownBy W (za g))(hp:aH w nw g T)(hd:∀p,p<n->fr p≠g):nL W n nw bt sv fv fr F:=
 h.turn ((aE.refl (λk=>k=g) w).grown hg (λk e=>by cases e;exact .inl rfl)) (λk _ e=>⟨nw,T,e ▸ hp⟩) ⟨λp tj=>(h.fol.rows p tj).grown hg (by simpa using hd p tj),h.fol.inj⟩
theorem nL.below(h:nL w n nw bt sv fv fr F)(hb:zi w.heap.size w W):nL W n nw bt sv fv fr F:=
 h.turn (aE.cH (S:=λ_=>False) hb) (λ_ _ e=>e.elim) ⟨λp hp=>(h.fol.rows p hp).below hb,h.fol.inj⟩
theorem nL.put{b o:Nat}{v:zg}{cs:Array zg}{t:zl}(h:nL w n nw bt sv fv fr F)(hb:w.heap[b]?=za (zf cs t (0,0)))(h1:t≠268)(h2:t≠193)(h3:t≠236)(h4:b≠0):nL (w.setCell ⟨b,o,zb⟩ v) n nw bt sv fv fr F:=by
 have hk:∀(k:Nat) (a:Array zg) (u:zl),w.heap[k]?=za (zf a u (0,0))->t≠u->(w.setCell ⟨b,o,zb⟩ v).heap[k]?=za (zf a u (0,0)):=λk a u hk hne=>
  ((jf w b o v).block k (ap.1 hk).1 (λe=>by cases e;rw[hb]at hk;exact hne (bP hk))).trans hk
 refine⟨hk _ _ _ h.box h1,λhn=>?_,⟨λp hp=>⟨hk _ _ _ (h.fol.rows p hp).row h3,(h.fol.rows p hp).lt⟩,h.fol.inj⟩,h.kC,h.gY,h.dR.keep ((jf w b o v).block 0 (qa h.dR) (λe=>h4 (by cases e;rfl)))⟩;obtain⟨gf,cf,aA,k1,k2,k3⟩:=h.fv hn;exact⟨gf,cf,aA,k1,hk _ _ _ k2 h2,k3⟩
structure DB(w W:zh)(n nw bt ga gl ha hl:Nat)(b c:Bool)(sv fv:zg)(fr:Nat->Nat)(F:Nat->Nat->Nat)(A L A' L':Nat->Nat):Prop where
 r4:W.heap[w.heap.size]?=za (zf #[.bool b,zc (za ⟨ga,0,zb⟩) nw nw,zc (za ⟨gl,0,zb⟩) nw nw] 226 (0,0))
 r5:W.heap[w.heap.size+1]?=za (zf #[.bool c,zc (za ⟨ha,0,zb⟩) nw nw,zc (za ⟨hl,0,zb⟩) nw nw] 226 (0,0))
 r6:W.heap[w.heap.size+1+1]?=za (zf #[.bool false,zc zb 0 0,zc zb 0 0] 226 (0,0))
 fa:aH W nw ga A
 la:aH W nw gl L
 fb:aH W nw ha A'
 lb:aH W nw hl L'
 tk:nL W n nw bt sv fv fr F
 t:aE (λk=>k=ga\/k=hl\/∃p,p<n/\k=fr p) w W
theorem DB.join{W2:zh}{A2 L2:Nat->Nat}(h:DB w W n nw bt ga gl ha hl b c sv fv fr F A L A' L')(hg:W.grownBy W2 (za g))(ju:ga<w.heap.size)(gW:hl<w.heap.size)(eC:g=ga\/g=hl)
  (ngl:g≠gl) (nha:g≠ha) (eT:∀p,p<n->fr p≠g) (ha2:aH W2 nw ga A2) (zyu:aH W2 nw hl L2):DB w W2 n nw bt ga gl ha hl b c sv fv fr F A2 L A' L2:=by
 have hk:∀(k:Nat) (o:Obj),W.heap[k]?=za o->k≠g->W2.heap[k]?=za o:=λk o hk hne=>(hg.block k (ap.1 hk).1 (by simpa using hne)).trans hk
 have qw:∃T,aH W nw g T:=by rcases eC with e|e<;>subst e;exact⟨_,h.fa⟩;exact⟨_,h.lb⟩
 obtain⟨T,hT⟩:=qw;exact⟨hk _ _ h.r4 (by omega),hk _ _ h.r5 (by omega),hk _ _ h.r6 (by omega),ha2,h.la.grown hg (by simpa using ngl.symm),h.fb.grown hg (by simpa using nha.symm),zyu,h.tk.join hg hT eT,h.t.grown hg (λk e=>by cases e;rcases eC with e|e;exact .inl (.inl e);exact .inl (.inr (.inl e)))⟩
theorem DB.done{v:Bool}(h:DB w W n nw bt ga gl ha hl b c sv fv fr F A L A' L')(ju:ga<w.heap.size)(gW:hl<w.heap.size)(hne:ga≠hl)(v0 v1 v2:zg):
  Xj w n nw bt sv fv fr F ga hl v A L' (.returned (zj #[.bool v,zc (za ⟨ga,0,zb⟩) nw nw,zc (za ⟨hl,0,zb⟩) nw nw])) (((W.setCell ⟨w.heap.size+1+1,0,zb⟩ v0).setCell ⟨w.heap.size+1+1,1,zb⟩ v1).setCell ⟨w.heap.size+1+1,2,zb⟩ v2):=by
 have hs:∀(X:zh) (o:Nat) (u:zg) (cs:Array zg),X.heap[w.heap.size+1+1]?=za (zf cs 226 (0,0))->∃gj,(X.setCell ⟨w.heap.size+1+1,o,zb⟩ u).heap[w.heap.size+1+1]?=za (zf gj 226 (0,0)):=λX o u cs hx=>⟨_,dF X _ o _ _ u hx⟩
 obtain⟨c1,k1⟩:=hs W 0 v0 _ h.r6;obtain⟨c2,k2⟩:=hs _ 1 v1 _ k1;have t0:=h.tk.put (o:=0) (v:=v0) h.r6 (by decide) (by decide) (by decide) (by omega);have t1:=t0.put (o:=1) (v:=v1) k1 (by decide) (by decide) (by decide) (by omega);have t2:=t1.put (o:=2) (v:=v2) k2 (by decide) (by decide) (by decide) (by omega);exact⟨rfl,⟨((h.fa.put (by omega)).put (by omega)).put (by omega),((h.lb.put (by omega)).put (by omega)).put (by omega),hne⟩,t2,
  ((h.t.grown (jf _ _ _ _) (λg e=>.inr (by cases e;omega))).grown (jf _ _ _ _) (λg e=>.inr (by cases e;omega))).grown (jf _ _ _ _) (λg e=>.inr (by cases e;omega))⟩
theorem zlH(n nw bt ga gl ha hl:Nat)(b c:Bool)(sv fv:zg)(fr:Nat->Nat)(F:Nat->Nat->Nat)(A L A' L':Nat->Nat)(w:zh)(h:nL w n nw bt sv fv fr F)(h1:mI w nw ga gl A L)(h2:mI w nw ha hl A' L')
  (d1:ga≠ha) (d2:ga≠hl) (d4:gl≠hl) (e1:∀p,p<n->fr p≠ga) (e2:∀p,p<n->fr p≠gl) (e3:∀p,p<n->fr p≠ha) (e4:∀p,p<n->fr p≠hl) (hm:∀p,p<64*nw->ax L p=true->p<n):
  zk prog 187 #[.pointer (za ⟨bt,0,zb⟩),zj #[.bool b,zc (za ⟨ga,0,zb⟩) nw nw,zc (za ⟨gl,0,zb⟩) nw nw],zj #[.bool c,zc (za ⟨ha,0,zb⟩) nw nw,zc (za ⟨hl,0,zb⟩) nw nw]] w λe w'=>
   Xj w n nw bt sv fv fr (λp=>if ax L p=true then eD (F p) A' else F p) ga hl (b&&c) (if b=true then eD A A' else A) (if c=true then eD L' L else L') e w':=by
 obtain⟨F2,hF2⟩:∃F2,(λp=>if ax L p=true then eD (F p) A' else F p)=F2:=⟨_,rfl⟩;rw[hF2];have bV:=h.gY;obtain⟨W0,ah⟩:∃W0,((w.alloc (zf #[.bool b,zc (za ⟨ga,0,zb⟩) nw nw,zc (za ⟨gl,0,zb⟩) nw nw] 226)).alloc (zf #[.bool c,zc (za ⟨ha,0,zb⟩) nw nw,zc (za ⟨hl,0,zb⟩) nw nw] 226)).alloc (zf #[.bool false,zc zb 0 0,zc zb 0 0] 226)=W0:=⟨_,rfl⟩;have ae:zi w.heap.size w W0:=by rw[<-ah];exact((au).alloc (by simp) _).alloc (by simp;omega) _
 have x4:W0.heap[w.heap.size]?=za (zf #[.bool b,zc (za ⟨ga,0,zb⟩) nw nw,zc (za ⟨gl,0,zb⟩) nw nw] 226 (0,0)):=by rw[<-ah];exact cQ (cQ (aL _ _))
 have x5:W0.heap[w.heap.size+1]?=za (zf #[.bool c,zc (za ⟨ha,0,zb⟩) nw nw,zc (za ⟨hl,0,zb⟩) nw nw] 226 (0,0)):=by
  rw[<-ah];refine cQ ?_;have:=aL (w.alloc (zf #[.bool b,zc (za ⟨ga,0,zb⟩) nw nw,zc (za ⟨gl,0,zb⟩) nw nw] 226)) (zf #[.bool c,zc (za ⟨ha,0,zb⟩) nw nw,zc (za ⟨hl,0,zb⟩) nw nw] 226)
  simpa using this
 have x6:W0.heap[w.heap.size+1+1]?=za (zf #[.bool false,zc zb 0 0,zc zb 0 0] 226 (0,0)):=by
  rw[<-ah];have:=aL ((w.alloc (zf #[.bool b,zc (za ⟨ga,0,zb⟩) nw nw,zc (za ⟨gl,0,zb⟩) nw nw] 226)).alloc (zf #[.bool c,zc (za ⟨ha,0,zb⟩) nw nw,zc (za ⟨hl,0,zb⟩) nw nw] 226)) (zf #[.bool false,zc zb 0 0,zc zb 0 0] 226)
  simpa using this
 have l1:=h1.fi.cj;have l2:=h1.la.cj;have l3:=h2.fi.cj;have l4:=h2.la.cj;have mQ:∀p,p<n->fr p<w.heap.size:=λp hp=>(h.fol.rows p hp).cj
 have hsz:W0.heap.size=w.heap.size+1+1+1:=by rw[<-ah];simp
 have Kz:=qa h.dR;have y:=h.below ae;have y1:=h1.below ae;have y2:=h2.below ae;have qx:=zmi n nw bt gl nw ha nw sv fv fr F L A' W0 y y1.la y2.fi e2 e3 hm;rw[hF2]at qx;clear hF2;have T0:aE (λk=>k=ga\/k=hl\/∃p,p<n/\k=fr p) w W0:=aE.cH ae;clear ae;obtain⟨a0,a1,a2,-,-,-⟩:=bW x4;obtain⟨b0,b1,b2,-,-,-⟩:=bW x5
 go_enter func187,ntmps187
 go_wp2_with fail
 clear a0 a1 a2 b0 b1 b2 ah;refine qx.mono ?_;rintro e w1 ⟨rfl,q,t1⟩;have hn:∀k,w.heap.size<=k->¬∃p,p<n/\k=fr p:=λk hk ⟨p,hp,e⟩=>by have:=mQ p hp;omega
 have u4:=(t1.same (w.heap.size) (by omega) (hn _ (by omega))).trans x4;have u5:=(t1.same (w.heap.size+1) (by omega) (hn _ (by omega))).trans x5;have u6:=(t1.same (w.heap.size+1+1) (by omega) (hn _ (by omega))).trans x6;have z1:=y1.fi.kF t1 (λ⟨p,hp,e⟩=>e1 p hp e.symm);have z2:=y1.la.kF t1 (λ⟨p,hp,e⟩=>e2 p hp e.symm);have z3:=y2.fi.kF t1 (λ⟨p,hp,e⟩=>e3 p hp e.symm);have z4:=y2.la.kF t1 (λ⟨p,hp,e⟩=>e4 p hp e.symm);have T1:=T0.trans (t1.mono (λk _ hk=>.inr (.inr hk)));have s1:=t1.size;have Ka:=h1.ne;have hha:=h2.ne;clear qx x4 x5 x6 y y1 y2 T0 t1 h h1 h2;have hS:DB w w1 n nw bt ga gl ha hl b c sv fv fr F2 A L A' L':=⟨u4,u5,u6,z1,z2,z3,z4,q,T1⟩;clear u4 u5 u6 z1 z2 z3 z4 q T1;have j9:∀(W:zh) (A2 L2:Nat->Nat),DB w W n nw bt ga gl ha hl b c sv fv fr F2 A2 L A' L2->∃c0 c1 c2,W.cell? ⟨w.heap.size,0,zb⟩=za (.bool b)/\W.cell? ⟨w.heap.size,1,zb⟩=za (zc (za ⟨ga,0,zb⟩) nw nw)/\W.cell? ⟨w.heap.size+1,0,zb⟩=za (.bool c)/\W.cell? ⟨w.heap.size+1,2,zb⟩=za (zc (za ⟨hl,0,zb⟩) nw nw)/\W.cell? ⟨w.heap.size,2,zb⟩=za (zc (za ⟨gl,0,zb⟩) nw nw)/\W.cell? ⟨w.heap.size+1,1,zb⟩=za (zc (za ⟨ha,0,zb⟩) nw nw)/\W.cell? ⟨w.heap.size+1+1,0,zb⟩=za c0/\W.cell? ⟨w.heap.size+1+1,1,zb⟩=za c1/\W.cell? ⟨w.heap.size+1+1,2,zb⟩=za c2/\W.frozen? ⟨w.heap.size+1+1,0,zb⟩=false/\W.frozen? ⟨w.heap.size+1+1,1,zb⟩=false/\W.frozen? ⟨w.heap.size+1+1,2,zb⟩=false:=λW A2 L2 hq=>by
  obtain⟨a0,a1,a2,-,-,-⟩:=bW hq.r4;obtain⟨b0,b1,b2,-,-,-⟩:=bW hq.r5;obtain⟨k0,k1,k2,f0,f1,f2⟩:=bW hq.r6;exact⟨_,_,_,a0,a1,b0,b2,a2,b1,k0,k1,k2,f0,f1,f2⟩
 cases b<;>cases c
 ·obtain⟨p0,p1,p2,a0,a1,b0,b2,a2,b1,k0,k1,k2,f0,f1,f2⟩:=j9 _ _ _ hS;go_wp2;refine bD (v:=zj #[.bool false,zc (za ⟨ga,0,zb⟩) nw nw,zc (za ⟨hl,0,zb⟩) nw nw]) (by simp[results,results187,go_sem,k0,k1,k2]) rfl ?_;exact hS.done l1 l4 d2 _ _ _
 ·obtain⟨p0,p1,p2,a0,a1,b0,b2,a2,b1,k0,k1,k2,f0,f1,f2⟩:=j9 _ _ _ hS;have hj:=zu nw hl gl nw nw L' L w1 hS.lb hS.la d4.symm bV
  go_wp2_with fail
  refine hj.mono ?_;rintro e w2 ⟨rfl,jc,bU⟩;have vH:=hS.join (A2:=A) bU l1 l4 (.inr rfl) d4.symm hha.symm e4 (hS.fa.grown bU (by simpa using d2)) jc;clear a0 a1 b0 b2 a2 b1 k0 k1 k2 f0 f1 f2;obtain⟨p0,p1,p2,a0,a1,b0,b2,a2,b1,k0,k1,k2,f0,f1,f2⟩:=j9 _ _ _ vH;go_wp2;refine bD (v:=zj #[.bool false,zc (za ⟨ga,0,zb⟩) nw nw,zc (za ⟨hl,0,zb⟩) nw nw]) (by simp[results,results187,go_sem,k0,k1,k2]) rfl ?_;exact vH.done l1 l4 d2 _ _ _
 ·obtain⟨p0,p1,p2,a0,a1,b0,b2,a2,b1,k0,k1,k2,f0,f1,f2⟩:=j9 _ _ _ hS;have hj:=zu nw ga ha nw nw A A' w1 hS.fa hS.fb d1 bV
  go_wp2_with fail
  refine hj.mono ?_;rintro e w2 ⟨rfl,jc,bU⟩;have vH:=hS.join (L2:=L') bU l1 l4 (.inl rfl) Ka d1 e1 jc (hS.lb.grown bU (by simpa using d2.symm));clear a0 a1 b0 b2 a2 b1 k0 k1 k2 f0 f1 f2;obtain⟨p0,p1,p2,a0,a1,b0,b2,a2,b1,k0,k1,k2,f0,f1,f2⟩:=j9 _ _ _ vH;go_wp2;refine bD (v:=zj #[.bool false,zc (za ⟨ga,0,zb⟩) nw nw,zc (za ⟨hl,0,zb⟩) nw nw]) (by simp[results,results187,go_sem,k0,k1,k2]) rfl ?_;exact vH.done l1 l4 d2 _ _ _
 ·obtain⟨p0,p1,p2,a0,a1,b0,b2,a2,b1,k0,k1,k2,f0,f1,f2⟩:=j9 _ _ _ hS;have hj:=zu nw ga ha nw nw A A' w1 hS.fa hS.fb d1 bV
  go_wp2_with fail
  refine hj.mono ?_;rintro e w2 ⟨rfl,jc,bU⟩;have vH:=hS.join (L2:=L') bU l1 l4 (.inl rfl) Ka d1 e1 jc (hS.lb.grown bU (by simpa using d2.symm));clear a0 a1 b0 b2 a2 b1 k0 k1 k2 f0 f1 f2;obtain⟨p0,p1,p2,a0,a1,b0,b2,a2,b1,k0,k1,k2,f0,f1,f2⟩:=j9 _ _ _ vH;have Cx:=zu nw hl gl nw nw L' L w2 vH.lb vH.la d4.symm bV
  go_wp2_with fail
  refine Cx.mono ?_;rintro e w3 ⟨rfl,xw,lB⟩;have Z4:=vH.join (A2:=eD A A') lB l1 l4 (.inr rfl) d4.symm hha.symm e4 (vH.fa.grown lB (by simpa using d2)) xw;clear a0 a1 b0 b2 a2 b1 k0 k1 k2 f0 f1 f2;obtain⟨p0,p1,p2,a0,a1,b0,b2,a2,b1,k0,k1,k2,f0,f1,f2⟩:=j9 _ _ _ Z4;go_wp2;refine bD (v:=zj #[.bool true,zc (za ⟨ga,0,zb⟩) nw nw,zc (za ⟨hl,0,zb⟩) nw nw]) (by simp[results,results187,go_sem,k0,k1,k2]) rfl ?_;exact Z4.done l1 l4 d2 _ _ _
end Go.Proofs.YtdimhpfiieepiaaGreatDoor
