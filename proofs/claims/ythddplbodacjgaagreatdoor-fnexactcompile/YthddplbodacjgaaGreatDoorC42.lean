import Derived.Test.YthddplbodacjgaaGreatDoorC33
namespace Go.Proofs.YthddplbodacjgaaGreatDoor
set_option maxHeartbeats 4000000
set_option maxRecDepth 100000
open Go.RowKit
attribute [local go_sem ↓] Go.wp_at_zero Go.wp_at_succ
theorem zpQ(ns:List zau)(hpos:0<ns.length)(h:(tstk ns ns.length).length=1):(tstk ns ns.length).getD 0 zbP=tOf ns (ns.length-1):=by
 obtain⟨m,hm⟩:∃m,ns.length=m+1:=⟨ns.length-1,by omega⟩;rw[hm] at h ⊢;rw[tstk,zlM] at h ⊢
 match hq:(tstk ns m).take ((tstk ns m).length-zaI (ns.getD m .zero).kind),h with
 |[],_=>rfl
 |_::_,h=>simp at h
theorem zqV{lo:Nat}(v:Value)(ns:List zau)(w:World)(hs:zaP lo w v ns)(hn:ns.length<=1048576):
  Calls Tryz.prog 100 #[v] w fun e w'=>Below w.heap.size w w'/\((ze3 ns=none/\e=.returned (.tuple #[.nilIface,.bool false]))\/∃wt t x,ze3 ns=some wt/\e=.returned (.tuple #[.iface t x,.bool true])/\IsTr w' (.iface t x) (tOf ns (ns.length-1)) wt):=by
 obtain⟨ao,cap,rfl,hm,hc⟩:=hs;obtain⟨i0,hi,hz0,hz1,hz2⟩:=info_parts Tryz.infoPart
 go_enter Tryz.func100,Tryz.ntmps100
 go_wp2
 go_loopw [4,12] (fun s i wr=>∃(k:Nat) (st:List Int) (g sc:Nat) (xs:List Value),k<=ns.length/\i=.int .i64 k/\s=.slice (some ⟨g,0,none⟩) st.length sc/\Below w.heap.size w wr/\wr.ownsRow w.heap.size 118 1 (.slice (some ⟨g,0,none⟩) st.length sc) st.length xs/\zca wr xs st (tstk ns k)/\st.length<=k/\Hid (zdy ns []=zdy (ns.drop k) st))
  (fun _ i _=>ns.length-(intOf i).toNat)
 case atStart=>exact⟨0,[],_,_,[],zuL _,rfl,rfl,(Below.refl _ _).alloc (zuz _) _,zcc _ _,⟨rfl,fun j hj=>absurd hj (zuI _),rfl⟩,zuz _,rfl⟩
 case round=>
  obtain⟨k,st,g,sc,xs,hk,rfl,rfl,hb,hown,hparts,hdk,HS⟩:=hrel;obtain⟨hgB,hgl,hdc,hcm⟩:=zaV hown;unfold maxLen at hcm
  by_cases hlt:k<ns.length
  ·obtain⟨b,o,sv,nd,rfl,Hn,hbl,c0,c1,c2,c3,c4,hsv⟩:=hc.elem hb hlt;have HD:Hid _:=zhW ns k hlt st nd Hn.out;obtain⟨kd,rs,mn,mx,gr⟩:=nd;simp only at c0 c2 c3 c4 hsv;obtain⟨sao,scp,rfl,hsm,hsc⟩:=hsv;have hz:=hb.size;have hba:Below w.heap.size w (wr.alloc (.cells #[.int .i64 kd,.slice sao rs.length scp,.int .i64 mn,.int .i64 mx,.int .i64 gr] 144)):=hb.alloc hz _;have hsva:zan lo (wr.alloc (.cells #[.int .i64 kd,.slice sao rs.length scp,.int .i64 mn,.int .i64 mx,.int .i64 gr] 144)) (.slice sao rs.length scp) rs:=zan.below ⟨_,_,rfl,hsm,hsc⟩ ((Below.refl _ _).alloc (zuz _) _);have hal:=zlW kd
   by_cases har:st.length<zaI kd
   ·have hneg:(st.length:Int)-(zaI kd:Int)<0:=by omega
    go_wp2_with (go_at_call 110;refine(zbW _ _).mono ?_;rintro e w2 ⟨rfl,rfl⟩)
    go_ret2
    exact⟨hba,.inl ⟨by unfold ze3;rw[HS.out,HD.out,zuV (.inl har)],rfl⟩⟩
   have hnn:¬((st.length:Int)-(zaI kd:Int)<0):=by omega
   by_cases hnb:zaK ⟨kd,rs,mn,mx,gr⟩=false
   ·go_wp2_with (first|(go_at_call 110;refine(zbW _ _).mono ?_;rintro e w2 ⟨rfl,rfl⟩)|(go_at_call 111;refine(zcb _ _ _ _ _ _ _ hsva).mono ?_;rintro e w3 ⟨rfl,hb3⟩))
    go_ret2
    exact⟨zaa hba hba.size hb3,.inl ⟨by unfold ze3;rw[HS.out,HD.out,zuV (.inr hnb)],rfl⟩⟩
   have hnt:zaK ⟨kd,rs,mn,mx,gr⟩=true:=by simpa using hnb
   clear hnb;have HD2:Hid (zdy (ns.drop k) st=zdy (ns.drop (k+1)) (zgc st ⟨kd,rs,mn,mx,gr⟩)):=by show _=_;rw[HD.out,zuU (by rintro (h|h);exact har h;rw[h] at hnt;cases hnt)]
   clear HD
   by_cases hk2:kd=2
   ·obtain⟨hr0,rfl,rfl,rfl⟩:=zmi hnt (.inl hk2);subst hk2 hr0;obtain⟨m,hm2⟩:∃m,st.length=m+2:=⟨st.length-2,by have:zaI 2=2:=rfl;omega⟩;have HM:Hid _:=hm2;rw[hm2] at hown hdc hdk ⊢;clear hm2
    go_wp2_with (first|(go_at_call 110;refine(zbW _ _).mono ?_;rintro e w2 ⟨rfl,rfl⟩;rw[show zaI 2=2 from rfl])|(go_at_call 111;refine(zcb _ _ _ _ _ _ _ hsva).mono ?_;rintro e w3 ⟨rfl,hb3⟩))
    have hown3:=zad (hown.alloc _) hb3;have hz3:=hb3.size;have hvar:wr.heap.size<w3.heap.size:=zuB (by simp) hz3;have hbb3:=zaa hba hba.size hb3;obtain⟨t0,x0,hx0,hp0⟩:=hparts.2.1 m (by have:=HM.out;omega);obtain⟨t1,x1,hx1,hp1⟩:=hparts.2.1 (m+1) (by have:=HM.out;omega);have q0:w3.cell? ⟨g,m,none⟩=some (.iface t0 x0):=(hown3.cellAt m (by omega)).trans hx0;have q1:w3.cell? ⟨g,m+1,none⟩=some (.iface t1 x1):=(hown3.cellAt (m+1) (by omega)).trans hx1;clear hx0 hx1;have e0:w3.cell? ⟨wr.heap.size,0,none⟩=some (.int .i64 2):=(hb3.cell (by simp)).trans (by simp);have e1:w3.cell? ⟨wr.heap.size,1,none⟩=some (.slice sao 0 scp):=(hb3.cell (by simp)).trans (by simp);have e2:w3.cell? ⟨wr.heap.size,2,none⟩=some (.int .i64 0):=(hb3.cell (by simp)).trans (by simp);have e3:w3.cell? ⟨wr.heap.size,3,none⟩=some (.int .i64 0):=(hb3.cell (by simp)).trans (by simp);have e4:w3.cell? ⟨wr.heap.size,4,none⟩=some (.int .i64 0):=(hb3.cell (by simp)).trans (by simp);have i1:(0:Int)<=(m:Int):=by omega
    have i2:(m:Int)<=((m+2:Nat):Int):=by omega
    have i2':(m:Int)<=(m:Int)+2:=by omega
    have i3:((m+2:Nat):Int)<=(sc:Int):=by omega
    have i4:(m:Int)+2<=(sc:Int):=by omega
    have i5:(m:Int)<=(sc:Int):=by omega
    have i6:¬sc=m:=by omega
    go_region_held3 (fun w'=>w'.cell? ⟨wr.heap.size,0,none⟩=some (.int .i64 2)/\w'.cell? ⟨wr.heap.size,1,none⟩=some (.slice sao 0 scp)/\w'.cell? ⟨wr.heap.size,2,none⟩=some (.int .i64 0)/\w'.cell? ⟨wr.heap.size,3,none⟩=some (.int .i64 0)/\w'.cell? ⟨wr.heap.size,4,none⟩=some (.int .i64 0)) ((first|go_keep|exact⟨(hb4.cell (by exact hvar)).trans e0,(hb4.cell (by exact hvar)).trans e1,(hb4.cell (by exact hvar)).trans e2,(hb4.cell (by exact hvar)).trans e3,(hb4.cell (by exact hvar)).trans e4⟩)) ((go_at_call 112;refine(zqQ _ _ _ _ _ g m (sc-m) w3.drew (by exact q0) (by exact q1)).mono ?_;rintro e w4 ⟨rfl,hb4⟩))
    have hown4:=zbC (zad (w:=w3.drew) hown3 hb4) (show m<=m+2 by omega);have hbb4:=zaa hbb3.drew hbb3.size hb4
    go_wp2_with (refine zaC w4 rfl (.tmp 36) (.tmp 38) 96 rfl w.heap.size 118 i0 _ 16 Tryz.underlying96 hi hz0 hz1 hz2 rfl g sc m (xs.take m) _ rfl hown4 rfl rfl (by omega) (by omega) hbb4.size ?_;intro g' cap' w5 hown5 hgrow5 hat)
    go_roundw
    case rel=>
     obtain⟨st',xs',hl,h1,h2,h3,h4⟩:=zc6 (nd:=⟨2,[],0,0,0⟩) HM.out rfl rfl hparts (zbA (zaa (zaa ((Below.refl _ _).alloc (zuz _) _) (by simp) hb3).drew (zaa ((Below.refl _ _).alloc (zuz _) _) (by simp) hb3).size hb4) hown4 hgrow5) Hn.out (show IsTr w5 _ (zbH ⟨2,[],0,0,0⟩ ((tstk ns k).drop m)) (zcf ⟨2,[],0,0,0⟩ (st.drop m)) by rw[tn2,wn2,(zey st m).1,(zey st m).2,(zdD _ m).1,(zdD _ m).2];exact zqN (hp0.keep (zbA (zaa (zaa ((Below.refl _ _).alloc (zuz _) _) (by simp) hb3).drew (zaa ((Below.refl _ _).alloc (zuz _) _) (by simp) hb3).size hb4) hown4 hgrow5)) (hp1.keep (zbA (zaa (zaa ((Below.refl _ _).alloc (zuz _) _) (by simp) hb3).drew (zaa ((Below.refl _ _).alloc (zuz _) _) (by simp) hb3).size hb4) hown4 hgrow5))) (by have:=HM.out;omega) hown5 HS.out HD2.out;exact⟨k+1,st',g',cap',xs',by omega,by go_num,by rw[hl],hbb4.grown hgrow5 hbb4.size (by intro q hq;cases hq;exact hgB),h1,h2,h3,h4⟩
    case measure=>simp[intOf];omega
   by_cases hk3:kd=3
   ·obtain⟨hr0,rfl,rfl,rfl⟩:=zmi hnt (.inr hk3);subst hk3 hr0;obtain⟨m,hm2⟩:∃m,st.length=m+2:=⟨st.length-2,by have:zaI 3=2:=rfl;omega⟩;have HM:Hid _:=hm2;rw[hm2] at hown hdc hdk ⊢;clear hm2
    go_wp2_with (first|(go_at_call 110;refine(zbW _ _).mono ?_;rintro e w2 ⟨rfl,rfl⟩;rw[show zaI 3=2 from rfl])|(go_at_call 111;refine(zcb _ _ _ _ _ _ _ hsva).mono ?_;rintro e w3 ⟨rfl,hb3⟩))
    have hown3:=zad (hown.alloc _) hb3;have hz3:=hb3.size;have hvar:wr.heap.size<w3.heap.size:=zuB (by simp) hz3;have hbb3:=zaa hba hba.size hb3;obtain⟨t0,x0,hx0,hp0⟩:=hparts.2.1 m (by have:=HM.out;omega);obtain⟨t1,x1,hx1,hp1⟩:=hparts.2.1 (m+1) (by have:=HM.out;omega);have q0:w3.cell? ⟨g,m,none⟩=some (.iface t0 x0):=(hown3.cellAt m (by omega)).trans hx0;have q1:w3.cell? ⟨g,m+1,none⟩=some (.iface t1 x1):=(hown3.cellAt (m+1) (by omega)).trans hx1;clear hx0 hx1;have e0:w3.cell? ⟨wr.heap.size,0,none⟩=some (.int .i64 3):=(hb3.cell (by simp)).trans (by simp);have e1:w3.cell? ⟨wr.heap.size,1,none⟩=some (.slice sao 0 scp):=(hb3.cell (by simp)).trans (by simp);have e2:w3.cell? ⟨wr.heap.size,2,none⟩=some (.int .i64 0):=(hb3.cell (by simp)).trans (by simp);have e3:w3.cell? ⟨wr.heap.size,3,none⟩=some (.int .i64 0):=(hb3.cell (by simp)).trans (by simp);have e4:w3.cell? ⟨wr.heap.size,4,none⟩=some (.int .i64 0):=(hb3.cell (by simp)).trans (by simp);have i1:(0:Int)<=(m:Int):=by omega
    have i2:(m:Int)<=((m+2:Nat):Int):=by omega
    have i2':(m:Int)<=(m:Int)+2:=by omega
    have i3:((m+2:Nat):Int)<=(sc:Int):=by omega
    have i4:(m:Int)+2<=(sc:Int):=by omega
    have i5:(m:Int)<=(sc:Int):=by omega
    have i6:¬sc=m:=by omega
    go_region_held3 (fun w'=>w'.cell? ⟨wr.heap.size,0,none⟩=some (.int .i64 3)/\w'.cell? ⟨wr.heap.size,1,none⟩=some (.slice sao 0 scp)/\w'.cell? ⟨wr.heap.size,2,none⟩=some (.int .i64 0)/\w'.cell? ⟨wr.heap.size,3,none⟩=some (.int .i64 0)/\w'.cell? ⟨wr.heap.size,4,none⟩=some (.int .i64 0)) ((first|go_keep|exact⟨(hb4.cell (by exact hvar)).trans e0,(hb4.cell (by exact hvar)).trans e1,(hb4.cell (by exact hvar)).trans e2,(hb4.cell (by exact hvar)).trans e3,(hb4.cell (by exact hvar)).trans e4⟩)) ((go_at_call 112;refine(zqO _ _ _ _ _ g m (sc-m) w3.drew (by exact q0) (by exact q1)).mono ?_;rintro e w4 ⟨rfl,hb4⟩))
    have hown4:=zbC (zad (w:=w3.drew) hown3 hb4) (show m<=m+2 by omega);have hbb4:=zaa hbb3.drew hbb3.size hb4
    go_wp2_with (refine zaC w4 rfl (.tmp 36) (.tmp 38) 96 rfl w.heap.size 118 i0 _ 16 Tryz.underlying96 hi hz0 hz1 hz2 rfl g sc m (xs.take m) _ rfl hown4 rfl rfl (by omega) (by omega) hbb4.size ?_;intro g' cap' w5 hown5 hgrow5 hat)
    go_roundw
    case rel=>
     obtain⟨st',xs',hl,h1,h2,h3,h4⟩:=zc6 (nd:=⟨3,[],0,0,0⟩) HM.out rfl rfl hparts (zbA (zaa (zaa ((Below.refl _ _).alloc (zuz _) _) (by simp) hb3).drew (zaa ((Below.refl _ _).alloc (zuz _) _) (by simp) hb3).size hb4) hown4 hgrow5) Hn.out (show IsTr w5 _ (zbH ⟨3,[],0,0,0⟩ ((tstk ns k).drop m)) (zcf ⟨3,[],0,0,0⟩ (st.drop m)) by rw[tn3,wn3,(zey st m).1,(zey st m).2,(zdD _ m).1,(zdD _ m).2];exact zqK (hp0.keep (zbA (zaa (zaa ((Below.refl _ _).alloc (zuz _) _) (by simp) hb3).drew (zaa ((Below.refl _ _).alloc (zuz _) _) (by simp) hb3).size hb4) hown4 hgrow5)) (hp1.keep (zbA (zaa (zaa ((Below.refl _ _).alloc (zuz _) _) (by simp) hb3).drew (zaa ((Below.refl _ _).alloc (zuz _) _) (by simp) hb3).size hb4) hown4 hgrow5))) (by have:=HM.out;omega) hown5 HS.out HD2.out;exact⟨k+1,st',g',cap',xs',by omega,by go_num,by rw[hl],hbb4.grown hgrow5 hbb4.size (by intro q hq;cases hq;exact hgB),h1,h2,h3,h4⟩
    case measure=>simp[intOf];omega
   by_cases hk5:kd=5
   ·subst hk5;obtain⟨hr0,rfl,rfl⟩:=zoU hnt;subst hr0;obtain⟨m,hm2⟩:∃m,st.length=m+1:=⟨st.length-1,by have:zaI 5=1:=rfl;omega⟩;have HM:Hid _:=hm2;rw[hm2] at hown hdc hdk ⊢;clear hm2
    go_wp2_with (first|(go_at_call 110;refine(zbW _ _).mono ?_;rintro e w2 ⟨rfl,rfl⟩;rw[show zaI 5=1 from rfl])|(go_at_call 111;refine(zcb _ _ _ _ _ _ _ hsva).mono ?_;rintro e w3 ⟨rfl,hb3⟩))
    have hown3:=zad (hown.alloc _) hb3;have hz3:=hb3.size;have hvar:wr.heap.size<w3.heap.size:=zuB (by simp) hz3;have hbb3:=zaa hba hba.size hb3;obtain⟨t0,x0,hx0,hp0⟩:=hparts.2.1 m (by have:=HM.out;omega);have q0:w3.cell? ⟨g,m,none⟩=some (.iface t0 x0):=(hown3.cellAt m (by omega)).trans hx0;clear hx0;have e0:w3.cell? ⟨wr.heap.size,0,none⟩=some (.int .i64 5):=(hb3.cell (by simp)).trans (by simp);have e1:w3.cell? ⟨wr.heap.size,1,none⟩=some (.slice sao 0 scp):=(hb3.cell (by simp)).trans (by simp);have e2:w3.cell? ⟨wr.heap.size,2,none⟩=some (.int .i64 0):=(hb3.cell (by simp)).trans (by simp);have e3:w3.cell? ⟨wr.heap.size,3,none⟩=some (.int .i64 0):=(hb3.cell (by simp)).trans (by simp);have e4:w3.cell? ⟨wr.heap.size,4,none⟩=some (.int .i64 gr):=(hb3.cell (by simp)).trans (by simp);have i1:(0:Int)<=(m:Int):=by omega
    have i2:(m:Int)<=((m+1:Nat):Int):=by omega
    have i2':(m:Int)<=(m:Int)+1:=by omega
    have i3:((m+1:Nat):Int)<=(sc:Int):=by omega
    have i4:(m:Int)+1<=(sc:Int):=by omega
    have i5:(m:Int)<=(sc:Int):=by omega
    have i6:¬sc=m:=by omega
    go_region_held3 (fun w'=>w'.cell? ⟨wr.heap.size,0,none⟩=some (.int .i64 5)/\w'.cell? ⟨wr.heap.size,1,none⟩=some (.slice sao 0 scp)/\w'.cell? ⟨wr.heap.size,2,none⟩=some (.int .i64 0)/\w'.cell? ⟨wr.heap.size,3,none⟩=some (.int .i64 0)/\w'.cell? ⟨wr.heap.size,4,none⟩=some (.int .i64 gr)) ((first|go_keep|exact⟨(hb4.cell (by exact hvar)).trans e0,(hb4.cell (by exact hvar)).trans e1,(hb4.cell (by exact hvar)).trans e2,(hb4.cell (by exact hvar)).trans e3,(hb4.cell (by exact hvar)).trans e4⟩)) ((go_at_call 112;refine(zqP _ _ _ _ g m (sc-m) w3.drew (by exact q0)).mono ?_;rintro e w4 ⟨rfl,hb4⟩))
    have hown4:=zbC (zad (w:=w3.drew) hown3 hb4) (show m<=m+1 by omega);have hbb4:=zaa hbb3.drew hbb3.size hb4
    go_wp2_with (refine zaC w4 rfl (.tmp 36) (.tmp 38) 96 rfl w.heap.size 118 i0 _ 16 Tryz.underlying96 hi hz0 hz1 hz2 rfl g sc m (xs.take m) _ rfl hown4 rfl rfl (by omega) (by omega) hbb4.size ?_;intro g' cap' w5 hown5 hgrow5 hat)
    go_roundw
    case rel=>
     obtain⟨st',xs',hl,h1,h2,h3,h4⟩:=zc6 (nd:=⟨5,[],0,0,gr⟩) HM.out rfl rfl hparts (zbA (zaa (zaa ((Below.refl _ _).alloc (zuz _) _) (by simp) hb3).drew (zaa ((Below.refl _ _).alloc (zuz _) _) (by simp) hb3).size hb4) hown4 hgrow5) Hn.out (show IsTr w5 _ (zbH ⟨5,[],0,0,gr⟩ ((tstk ns k).drop m)) (zcf ⟨5,[],0,0,gr⟩ (st.drop m)) by rw[tn5,wn5,zge,(zdD _ m).1];exact zqL (hp0.keep (zbA (zaa (zaa ((Below.refl _ _).alloc (zuz _) _) (by simp) hb3).drew (zaa ((Below.refl _ _).alloc (zuz _) _) (by simp) hb3).size hb4) hown4 hgrow5))) (by have:=HM.out;omega) hown5 HS.out HD2.out;exact⟨k+1,st',g',cap',xs',by omega,by go_num,by rw[hl],hbb4.grown hgrow5 hbb4.size (by intro q hq;cases hq;exact hgB),h1,h2,h3,h4⟩
    case measure=>simp[intOf];omega
   by_cases hk4:kd=4
   ·subst hk4;obtain⟨hr0,hbd,rfl⟩:=zg0 hnt;subst hr0;have HB:Hid _:=hbd;clear hbd;obtain⟨m,hm2⟩:∃m,st.length=m+1:=⟨st.length-1,by have:zaI 4=1:=rfl;omega⟩;have HM:Hid _:=hm2;rw[hm2] at hown hdc hdk ⊢;clear hm2
    go_wp2_with (first|(go_at_call 110;refine(zbW _ _).mono ?_;rintro e w2 ⟨rfl,rfl⟩;rw[show zaI 4=1 from rfl])|(go_at_call 111;refine(zcb _ _ _ _ _ _ _ hsva).mono ?_;rintro e w3 ⟨rfl,hb3⟩))
    have hown3:=zad (hown.alloc _) hb3;have hz3:=hb3.size;have hvar:wr.heap.size<w3.heap.size:=zuB (by simp) hz3;have hbb3:=zaa hba hba.size hb3;obtain⟨t0,x0,hx0,hp0⟩:=hparts.2.1 m (by have:=HM.out;omega);have q0:w3.cell? ⟨g,m,none⟩=some (.iface t0 x0):=(hown3.cellAt m (by omega)).trans hx0;obtain⟨p0,hp0t,hpw,hpi⟩:=hp0;have hp3:zaT w3.drew (.iface t0 x0) p0:=zaT.keep (.of (zaa ((Below.refl _ _).alloc (zuz _) _) (by simp) hb3).drew) _ _ hp0t;clear hp0t;clear hx0;have e0:w3.cell? ⟨wr.heap.size,0,none⟩=some (.int .i64 4):=(hb3.cell (by simp)).trans (by simp);have e1:w3.cell? ⟨wr.heap.size,1,none⟩=some (.slice sao 0 scp):=(hb3.cell (by simp)).trans (by simp);have e2:w3.cell? ⟨wr.heap.size,2,none⟩=some (.int .i64 mn):=(hb3.cell (by simp)).trans (by simp);have e3:w3.cell? ⟨wr.heap.size,3,none⟩=some (.int .i64 mx):=(hb3.cell (by simp)).trans (by simp);have e4:w3.cell? ⟨wr.heap.size,4,none⟩=some (.int .i64 0):=(hb3.cell (by simp)).trans (by simp);have i1:(0:Int)<=(m:Int):=by omega
    have i2:(m:Int)<=((m+1:Nat):Int):=by omega
    have i2':(m:Int)<=(m:Int)+1:=by omega
    have i3:((m+1:Nat):Int)<=(sc:Int):=by omega
    have i4:(m:Int)+1<=(sc:Int):=by omega
    have i5:(m:Int)<=(sc:Int):=by omega
    have i6:¬sc=m:=by omega
    go_region_held3 (fun w'=>w'.cell? ⟨wr.heap.size,0,none⟩=some (.int .i64 4)/\w'.cell? ⟨wr.heap.size,1,none⟩=some (.slice sao 0 scp)/\w'.cell? ⟨wr.heap.size,2,none⟩=some (.int .i64 mn)/\w'.cell? ⟨wr.heap.size,3,none⟩=some (.int .i64 mx)/\w'.cell? ⟨wr.heap.size,4,none⟩=some (.int .i64 0)) ((first|go_keep|exact⟨(hb4.cell (by exact hvar)).trans e0,(hb4.cell (by exact hvar)).trans e1,(hb4.cell (by exact hvar)).trans e2,(hb4.cell (by exact hvar)).trans e3,(hb4.cell (by exact hvar)).trans e4⟩)) ((go_at_call 112;refine(zoF _ _ p0 mn mx g m (sc-m) w3.drew (by exact q0) hp3 HB.out).mono ?_;rintro e w4 ⟨t4,x4,p4,rfl,hp4,hw4,hi4,hb4⟩))
    have hown4:=zbC (zad (w:=w3.drew) hown3 hb4) (show m<=m+1 by omega);have hbb4:=zaa hbb3.drew hbb3.size hb4
    go_wp2_with (refine zaC w4 rfl (.tmp 36) (.tmp 38) 96 rfl w.heap.size 118 i0 _ 16 Tryz.underlying96 hi hz0 hz1 hz2 rfl g sc m (xs.take m) _ rfl hown4 rfl rfl (by omega) (by omega) hbb4.size ?_;intro g' cap' w5 hown5 hgrow5 hat)
    go_roundw
    case rel=>
     obtain⟨st',xs',hl,h1,h2,h3,h4⟩:=zc6 (nd:=⟨4,[],mn,mx,0⟩) HM.out rfl rfl hparts (zbA (zaa (zaa ((Below.refl _ _).alloc (zuz _) _) (by simp) hb3).drew (zaa ((Below.refl _ _).alloc (zuz _) _) (by simp) hb3).size hb4) hown4 hgrow5) Hn.out (show IsTr w5 _ (zbH ⟨4,[],mn,mx,0⟩ ((tstk ns k).drop m)) (zcf ⟨4,[],mn,mx,0⟩ (st.drop m)) by rw[tn4,wn4,zge,(zdD _ m).1];exact zqM hpw hpi (zaT.keep (zbA (Below.refl _ _) hown4 hgrow5) _ _ hp4) hw4 hi4) (by have:=HM.out;omega) hown5 HS.out HD2.out;exact⟨k+1,st',g',cap',xs',by omega,by go_num,by rw[hl],hbb4.grown hgrow5 hbb4.size (by intro q hq;cases hq;exact hgB),h1,h2,h3,h4⟩
    case measure=>simp[intOf];omega
   have hk1:kd=1:=by rcases zg1 hnt with h|h|h|h|h<;>omega
   ·subst hk1;obtain⟨hr0,rfl,rfl,rfl⟩:=zq3 hnt;have HR:Hid _:=hr0;clear hr0 hk2 hk3 hk4 hk5;obtain⟨m,hm2⟩:∃m,st.length=m+0:=⟨st.length-0,by have:zaI 1=0:=rfl;omega⟩;have HM:Hid _:=hm2;rw[hm2] at hown hdc hdk ⊢;clear hm2
    by_cases hcm1:m=sc
    ·subst hcm1
     go_wp2_with (first|(go_at_call 110;refine(zbW _ _).mono ?_;rintro e w2 ⟨rfl,rfl⟩;rw[show zaI 1=0 from rfl])|(go_at_call 111;refine(zcb _ _ _ _ _ _ _ hsva).mono ?_;rintro e w3 ⟨rfl,hb3⟩))
     have hown3:=zad (hown.alloc _) hb3;have hz3:=hb3.size;have hvar:wr.heap.size<w3.heap.size:=zuB (by simp) hz3;have hbb3:=zaa hba hba.size hb3;have e0:w3.cell? ⟨wr.heap.size,0,none⟩=some (.int .i64 1):=(hb3.cell (by simp)).trans (by simp);have e1:w3.cell? ⟨wr.heap.size,1,none⟩=some (.slice sao rs.length scp):=(hb3.cell (by simp)).trans (by simp);have e2:w3.cell? ⟨wr.heap.size,2,none⟩=some (.int .i64 0):=(hb3.cell (by simp)).trans (by simp);have e3:w3.cell? ⟨wr.heap.size,3,none⟩=some (.int .i64 0):=(hb3.cell (by simp)).trans (by simp);have e4:w3.cell? ⟨wr.heap.size,4,none⟩=some (.int .i64 0):=(hb3.cell (by simp)).trans (by simp);have hq1:zan lo w3.drew (.slice sao rs.length scp) rs:=hsva.below hb3.drew;have i1:(0:Int)<=(m:Int):=by omega
     have i2:(m:Int)<=((m+0:Nat):Int):=by omega
     have i2':(m:Int)<=(m:Int)+0:=by omega
     have i3:((m+0:Nat):Int)<=(m:Int):=by omega
     have i4:(m:Int)+0<=(m:Int):=by omega
     have i5:(m:Int)<=(m:Int):=by omega
     go_region_held3 (fun w'=>w'.cell? ⟨wr.heap.size,0,none⟩=some (.int .i64 1)/\w'.cell? ⟨wr.heap.size,1,none⟩=some (.slice sao rs.length scp)/\w'.cell? ⟨wr.heap.size,2,none⟩=some (.int .i64 0)/\w'.cell? ⟨wr.heap.size,3,none⟩=some (.int .i64 0)/\w'.cell? ⟨wr.heap.size,4,none⟩=some (.int .i64 0)) ((first|go_keep|exact⟨(hb4.cell (by exact hvar)).trans e0,(hb4.cell (by exact hvar)).trans e1,(hb4.cell (by exact hvar)).trans e2,(hb4.cell (by exact hvar)).trans e3,(hb4.cell (by exact hvar)).trans e4⟩)) ((go_at_call 112;refine(zl8 _ _ _ _ (hq1) HR.out).mono ?_;rintro e w4 ⟨mg,rfl,hmg,hmr,hb4⟩))
     have hown4:=zbC (zad (w:=w3.drew) hown3 hb4) (show m<=m+0 by omega);have hbb4:=zaa hbb3.drew hbb3.size hb4
     go_wp2_with (refine zaC w4 rfl (.tmp 36) (.tmp 38) 96 rfl w.heap.size 118 i0 _ 16 Tryz.underlying96 hi hz0 hz1 hz2 rfl g m m (xs.take m) _ rfl hown4 rfl rfl (by omega) (by omega) hbb4.size ?_;intro g' cap' w5 hown5 hgrow5 hat)
     go_roundw
     case rel=>
      obtain⟨st',xs',hl,h1,h2,h3,h4⟩:=zc6 (nd:=⟨1,rs,0,0,0⟩) HM.out rfl rfl hparts (zbA (zaa (zaa ((Below.refl _ _).alloc (zuz _) _) (by simp) hb3).drew (zaa ((Below.refl _ _).alloc (zuz _) _) (by simp) hb3).size hb4) hown4 hgrow5) Hn.out (show IsTr w5 _ (zbH ⟨1,rs,0,0,0⟩ ((tstk ns k).drop m)) (zcf ⟨1,rs,0,0,0⟩ (st.drop m)) by rw[tn1,wn1];exact(zl7 hmr).keep (zbA (Below.refl _ _) hown4 hgrow5)) (by have:=HM.out;omega) hown5 HS.out HD2.out;exact⟨k+1,st',g',cap',xs',by omega,by go_num,by rw[hl],hbb4.grown hgrow5 hbb4.size (by intro q hq;cases hq;exact hgB),h1,h2,h3,h4⟩
     case measure=>simp[intOf];omega
    ·have hcm2:¬sc=m:=fun h=>hcm1 h.symm
     clear hcm1
     go_wp2_with (first|(go_at_call 110;refine(zbW _ _).mono ?_;rintro e w2 ⟨rfl,rfl⟩;rw[show zaI 1=0 from rfl])|(go_at_call 111;refine(zcb _ _ _ _ _ _ _ hsva).mono ?_;rintro e w3 ⟨rfl,hb3⟩))
     have hown3:=zad (hown.alloc _) hb3;have hz3:=hb3.size;have hvar:wr.heap.size<w3.heap.size:=zuB (by simp) hz3;have hbb3:=zaa hba hba.size hb3;have e0:w3.cell? ⟨wr.heap.size,0,none⟩=some (.int .i64 1):=(hb3.cell (by simp)).trans (by simp);have e1:w3.cell? ⟨wr.heap.size,1,none⟩=some (.slice sao rs.length scp):=(hb3.cell (by simp)).trans (by simp);have e2:w3.cell? ⟨wr.heap.size,2,none⟩=some (.int .i64 0):=(hb3.cell (by simp)).trans (by simp);have e3:w3.cell? ⟨wr.heap.size,3,none⟩=some (.int .i64 0):=(hb3.cell (by simp)).trans (by simp);have e4:w3.cell? ⟨wr.heap.size,4,none⟩=some (.int .i64 0):=(hb3.cell (by simp)).trans (by simp);have hq1:zan lo w3.drew (.slice sao rs.length scp) rs:=hsva.below hb3.drew;have i1:(0:Int)<=(m:Int):=by omega
     have i2:(m:Int)<=((m+0:Nat):Int):=by omega
     have i2':(m:Int)<=(m:Int)+0:=by omega
     have i3:((m+0:Nat):Int)<=(sc:Int):=by omega
     have i4:(m:Int)+0<=(sc:Int):=by omega
     have i5:(m:Int)<=(sc:Int):=by omega
     go_region_held3 (fun w'=>w'.cell? ⟨wr.heap.size,0,none⟩=some (.int .i64 1)/\w'.cell? ⟨wr.heap.size,1,none⟩=some (.slice sao rs.length scp)/\w'.cell? ⟨wr.heap.size,2,none⟩=some (.int .i64 0)/\w'.cell? ⟨wr.heap.size,3,none⟩=some (.int .i64 0)/\w'.cell? ⟨wr.heap.size,4,none⟩=some (.int .i64 0)) ((first|go_keep|exact⟨(hb4.cell (by exact hvar)).trans e0,(hb4.cell (by exact hvar)).trans e1,(hb4.cell (by exact hvar)).trans e2,(hb4.cell (by exact hvar)).trans e3,(hb4.cell (by exact hvar)).trans e4⟩)) ((go_at_call 112;refine(zl8 _ _ _ _ (hq1) HR.out).mono ?_;rintro e w4 ⟨mg,rfl,hmg,hmr,hb4⟩))
     have hown4:=zbC (zad (w:=w3.drew) hown3 hb4) (show m<=m+0 by omega);have hbb4:=zaa hbb3.drew hbb3.size hb4
     go_wp2_with (refine zaC w4 rfl (.tmp 36) (.tmp 38) 96 rfl w.heap.size 118 i0 _ 16 Tryz.underlying96 hi hz0 hz1 hz2 rfl g sc m (xs.take m) _ rfl hown4 rfl rfl (by omega) (by omega) hbb4.size ?_;intro g' cap' w5 hown5 hgrow5 hat)
     go_roundw
     case rel=>
      obtain⟨st',xs',hl,h1,h2,h3,h4⟩:=zc6 (nd:=⟨1,rs,0,0,0⟩) HM.out rfl rfl hparts (zbA (zaa (zaa ((Below.refl _ _).alloc (zuz _) _) (by simp) hb3).drew (zaa ((Below.refl _ _).alloc (zuz _) _) (by simp) hb3).size hb4) hown4 hgrow5) Hn.out (show IsTr w5 _ (zbH ⟨1,rs,0,0,0⟩ ((tstk ns k).drop m)) (zcf ⟨1,rs,0,0,0⟩ (st.drop m)) by rw[tn1,wn1];exact(zl7 hmr).keep (zbA (Below.refl _ _) hown4 hgrow5)) (by have:=HM.out;omega) hown5 HS.out HD2.out;exact⟨k+1,st',g',cap',xs',by omega,by go_num,by rw[hl],hbb4.grown hgrow5 hbb4.size (by intro q hq;cases hq;exact hgB),h1,h2,h3,h4⟩
     case measure=>simp[intOf];omega
  ·have hkk:k=ns.length:=by omega
   have HF:Hid (zdy ns []=some st):=by show _=_;rw[HS.out,ztH (by omega)];rfl
   by_cases hone:st.length=1
   ·obtain⟨t0,x0,hx0,hp0⟩:=hparts.2.1 0 (by omega);rw[hone] at hown ⊢;have q0:wr.cell? ⟨g,0,none⟩=some (.iface t0 x0):=(hown.cellAt 0 (by omega)).trans hx0;have Hone:Hid _:=hone;have HTL:Hid ((tstk ns k).length=1):=by show _=_;rw[hparts.2.2];exact Hone.out
    clear hone hx0;go_wp2
    go_ret2
    refine⟨hb,.inr ⟨st.getD 0 0,t0,x0,?_,rfl,?_⟩⟩
    rotate_left
    ·rw[hkk] at hp0 HTL;rw[zpQ ns (by have:=Hone.out;omega) HTL.out] at hp0;exact hp0
    unfold ze3;rw[HF.out]
    match st,Hone.out with
    |[a],_=>rfl
   ·have hne:(((st.length:Nat):Int) != 1)=true:=by rw[bne_iff_ne];omega
    have Hone:Hid _:=hone;clear hone;go_wp2
    go_ret2
    refine⟨hb,.inl ⟨?_,rfl⟩⟩;unfold ze3;rw[HF.out]
    match st,Hone.out with
    |[],_=>rfl
    |[a],h=>exact absurd rfl h
    |_::_::_,_=>rfl
end Go.Proofs.YthddplbodacjgaaGreatDoor
