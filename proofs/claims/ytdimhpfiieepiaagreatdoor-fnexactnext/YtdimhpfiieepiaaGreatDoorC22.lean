import Derived.Test.YtdimhpfiieepiaaGreatDoorC21
namespace Go.Proofs.YtdimhpfiieepiaaGreatDoor
set_option maxHeartbeats 4000000
set_option maxRecDepth 100000
open Go.RowKit
section
attribute [local go_sem ↓] Go.wp_at_zero Go.wp_at_succ
theorem zqO(ns:List zaq)(hpos:0<ns.length)(h:(tstk ns ns.length).length=1):(tstk ns ns.length).getD 0 zbG=tOf ns (ns.length-1):=by
 obtain⟨m,hm⟩:∃m,ns.length=m+1:=⟨ns.length-1,by omega⟩;rw[hm] at h ⊢;rw[tstk,zsA] at h ⊢
 match hq:(tstk ns m).take ((tstk ns m).length-zaE (ns.getD m .zero).kind),h with
 |[],_=>rfl
 |_::_,h=>simp at h
theorem zrM{lo:Nat}(v:Value)(ns:List zaq)(w:World)(hs:zaI lo w v ns)(hn:ns.length<=1048576):
  Calls Tryz.prog 138 #[v] w fun e w'=>Below w.heap.size w w'/\((ze8 ns=none/\e=.returned (.tuple #[.nilIface,.bool false]))\/∃wt t x,ze8 ns=some wt/\e=.returned (.tuple #[.iface t x,.bool true])/\IsTr w' (.iface t x) (tOf ns (ns.length-1)) wt):=by
 obtain⟨ao,cap,rfl,hm,hc⟩:=hs;obtain⟨i0,hi,hz0,hz1,hz2⟩:=info_parts Tryz.infoPart
 go_enter Tryz.func138,Tryz.ntmps138
 go_wp2
 go_loopw [4,12] (fun s i wr=>∃(k:Nat) (st:List Int) (g sc:Nat) (xs:List Value),k<=ns.length/\i=.int .i64 k/\s=.slice (some ⟨g,0,none⟩) st.length sc/\Below w.heap.size w wr/\wr.ownsRow w.heap.size 184 1 (.slice (some ⟨g,0,none⟩) st.length sc) st.length xs/\zbY wr xs st (tstk ns k)/\st.length<=k/\Hid (zdo ns []=zdo (ns.drop k) st))
  (fun _ i _=>ns.length-(intOf i).toNat)
 case atStart=>exact⟨0,[],_,_,[],zvT _,rfl,rfl,(Below.refl _ _).alloc (zvJ _) _,zhc _ _,⟨rfl,fun j hj=>absurd hj (zvQ _),rfl⟩,zvJ _,rfl⟩
 case round=>
  obtain⟨k,st,g,sc,xs,hk,rfl,rfl,hb,hown,hparts,hdk,HS⟩:=hrel;obtain⟨hgB,hgl,hdc,hcm⟩:=zbu hown;unfold maxLen at hcm
  by_cases hlt:k<ns.length
  ·obtain⟨b,o,sv,nd,rfl,Hn,hbl,c0,c1,c2,c3,c4,hsv⟩:=hc.elem hb hlt;have HD:Hid _:=zim ns k hlt st nd Hn.out;obtain⟨kd,rs,mn,mx,gr⟩:=nd;simp only at c0 c2 c3 c4 hsv;obtain⟨sao,scp,rfl,hsm,hsc⟩:=hsv;have hz:=hb.size;have hba:Below w.heap.size w (wr.alloc (.cells #[.int .i64 kd,.slice sao rs.length scp,.int .i64 mn,.int .i64 mx,.int .i64 gr] 149)):=hb.alloc hz _;have hsva:zal lo (wr.alloc (.cells #[.int .i64 kd,.slice sao rs.length scp,.int .i64 mn,.int .i64 mx,.int .i64 gr] 149)) (.slice sao rs.length scp) rs:=zal.below ⟨_,_,rfl,hsm,hsc⟩ ((Below.refl _ _).alloc (zvJ _) _);have hal:=zmv kd
   by_cases har:st.length<zaE kd
   ·have hneg:(st.length:Int)-(zaE kd:Int)<0:=by omega
    go_wp2_with (go_at_call 155;refine(zbM _ _).mono ?_;rintro e w2 ⟨rfl,rfl⟩)
    go_ret2
    exact⟨hba,.inl ⟨by unfold ze8;rw[HS.out,HD.out,zv3 (.inl har)],rfl⟩⟩
   have hnn:¬((st.length:Int)-(zaE kd:Int)<0):=by omega
   by_cases hnb:zaB ⟨kd,rs,mn,mx,gr⟩=false
   ·go_wp2_with (first|(go_at_call 155;refine(zbM _ _).mono ?_;rintro e w2 ⟨rfl,rfl⟩)|(go_at_call 156;refine(zbZ _ _ _ _ _ _ _ hsva).mono ?_;rintro e w3 ⟨rfl,hb3⟩))
    go_ret2
    exact⟨zaa hba hba.size hb3,.inl ⟨by unfold ze8;rw[HS.out,HD.out,zv3 (.inr hnb)],rfl⟩⟩
   have hnt:zaB ⟨kd,rs,mn,mx,gr⟩=true:=by simpa using hnb
   clear hnb;have HD2:Hid (zdo (ns.drop k) st=zdo (ns.drop (k+1)) (zhH st ⟨kd,rs,mn,mx,gr⟩)):=by show _=_;rw[HD.out,zv2 (by rintro (h|h);exact har h;rw[h] at hnt;cases hnt)]
   clear HD
   by_cases hk2:kd=2
   ·obtain⟨hr0,rfl,rfl,rfl⟩:=zmU hnt (.inl hk2);subst hk2 hr0;obtain⟨m,hm2⟩:∃m,st.length=m+2:=⟨st.length-2,by have:zaE 2=2:=rfl;omega⟩;have HM:Hid _:=hm2;rw[hm2] at hown hdc hdk ⊢;clear hm2
    go_wp2_with (first|(go_at_call 155;refine(zbM _ _).mono ?_;rintro e w2 ⟨rfl,rfl⟩;rw[show zaE 2=2 from rfl])|(go_at_call 156;refine(zbZ _ _ _ _ _ _ _ hsva).mono ?_;rintro e w3 ⟨rfl,hb3⟩))
    have hown3:=zac (hown.alloc _) hb3;have hz3:=hb3.size;have hvar:wr.heap.size<w3.heap.size:=zvL (by simp) hz3;have hbb3:=zaa hba hba.size hb3;obtain⟨t0,x0,hx0,hp0⟩:=hparts.2.1 m (by have:=HM.out;omega);obtain⟨t1,x1,hx1,hp1⟩:=hparts.2.1 (m+1) (by have:=HM.out;omega);have q0:w3.cell? ⟨g,m,none⟩=some (.iface t0 x0):=(hown3.cellAt m (by omega)).trans hx0;have q1:w3.cell? ⟨g,m+1,none⟩=some (.iface t1 x1):=(hown3.cellAt (m+1) (by omega)).trans hx1;clear hx0 hx1;have e0:w3.cell? ⟨wr.heap.size,0,none⟩=some (.int .i64 2):=(hb3.cell (by simp)).trans (by simp);have e1:w3.cell? ⟨wr.heap.size,1,none⟩=some (.slice sao 0 scp):=(hb3.cell (by simp)).trans (by simp);have e2:w3.cell? ⟨wr.heap.size,2,none⟩=some (.int .i64 0):=(hb3.cell (by simp)).trans (by simp);have e3:w3.cell? ⟨wr.heap.size,3,none⟩=some (.int .i64 0):=(hb3.cell (by simp)).trans (by simp);have e4:w3.cell? ⟨wr.heap.size,4,none⟩=some (.int .i64 0):=(hb3.cell (by simp)).trans (by simp);have i1:(0:Int)<=(m:Int):=by omega
    have i2:(m:Int)<=((m+2:Nat):Int):=by omega
    have i2':(m:Int)<=(m:Int)+2:=by omega
    have i3:((m+2:Nat):Int)<=(sc:Int):=by omega
    have i4:(m:Int)+2<=(sc:Int):=by omega
    have i5:(m:Int)<=(sc:Int):=by omega
    have i6:¬sc=m:=by omega
    go_region_held3 (fun w'=>w'.cell? ⟨wr.heap.size,0,none⟩=some (.int .i64 2)/\w'.cell? ⟨wr.heap.size,1,none⟩=some (.slice sao 0 scp)/\w'.cell? ⟨wr.heap.size,2,none⟩=some (.int .i64 0)/\w'.cell? ⟨wr.heap.size,3,none⟩=some (.int .i64 0)/\w'.cell? ⟨wr.heap.size,4,none⟩=some (.int .i64 0)) ((first|go_keep|exact⟨(hb4.cell (by exact hvar)).trans e0,(hb4.cell (by exact hvar)).trans e1,(hb4.cell (by exact hvar)).trans e2,(hb4.cell (by exact hvar)).trans e3,(hb4.cell (by exact hvar)).trans e4⟩)) ((go_at_call 157;refine(zrD _ _ _ _ _ g m (sc-m) w3.drew (by exact q0) (by exact q1)).mono ?_;rintro e w4 ⟨rfl,hb4⟩))
    have hown4:=zbv (zac (w:=w3.drew) hown3 hb4) (show m<=m+2 by omega);have hbb4:=zaa hbb3.drew hbb3.size hb4
    go_wp2_with (refine zau w4 rfl (.tmp 36) (.tmp 38) 155 rfl w.heap.size 184 i0 _ 16 Tryz.underlying155 hi hz0 hz1 hz2 rfl g sc m (xs.take m) _ rfl hown4 rfl rfl (by omega) (by omega) hbb4.size ?_;intro g' cap' w5 hown5 hgrow5 hat)
    go_roundw
    case rel=>
     obtain⟨st',xs',hl,h1,h2,h3,h4⟩:=zcU (nd:=⟨2,[],0,0,0⟩) HM.out rfl rfl hparts (zbt (zaa (zaa ((Below.refl _ _).alloc (zvJ _) _) (by simp) hb3).drew (zaa ((Below.refl _ _).alloc (zvJ _) _) (by simp) hb3).size hb4) hown4 hgrow5) Hn.out (show IsTr w5 _ (zbO ⟨2,[],0,0,0⟩ ((tstk ns k).drop m)) (zcT ⟨2,[],0,0,0⟩ (st.drop m)) by rw[tn2,wn2,(zen st m).1,(zen st m).2,(zds _ m).1,(zds _ m).2];exact zrA (hp0.keep (zbt (zaa (zaa ((Below.refl _ _).alloc (zvJ _) _) (by simp) hb3).drew (zaa ((Below.refl _ _).alloc (zvJ _) _) (by simp) hb3).size hb4) hown4 hgrow5)) (hp1.keep (zbt (zaa (zaa ((Below.refl _ _).alloc (zvJ _) _) (by simp) hb3).drew (zaa ((Below.refl _ _).alloc (zvJ _) _) (by simp) hb3).size hb4) hown4 hgrow5))) (by have:=HM.out;omega) hown5 HS.out HD2.out;exact⟨k+1,st',g',cap',xs',by omega,by go_num,by rw[hl],hbb4.grown hgrow5 hbb4.size (by intro q hq;cases hq;exact hgB),h1,h2,h3,h4⟩
    case measure=>simp[intOf];omega
   by_cases hk3:kd=3
   ·obtain⟨hr0,rfl,rfl,rfl⟩:=zmU hnt (.inr hk3);subst hk3 hr0;obtain⟨m,hm2⟩:∃m,st.length=m+2:=⟨st.length-2,by have:zaE 3=2:=rfl;omega⟩;have HM:Hid _:=hm2;rw[hm2] at hown hdc hdk ⊢;clear hm2
    go_wp2_with (first|(go_at_call 155;refine(zbM _ _).mono ?_;rintro e w2 ⟨rfl,rfl⟩;rw[show zaE 3=2 from rfl])|(go_at_call 156;refine(zbZ _ _ _ _ _ _ _ hsva).mono ?_;rintro e w3 ⟨rfl,hb3⟩))
    have hown3:=zac (hown.alloc _) hb3;have hz3:=hb3.size;have hvar:wr.heap.size<w3.heap.size:=zvL (by simp) hz3;have hbb3:=zaa hba hba.size hb3;obtain⟨t0,x0,hx0,hp0⟩:=hparts.2.1 m (by have:=HM.out;omega);obtain⟨t1,x1,hx1,hp1⟩:=hparts.2.1 (m+1) (by have:=HM.out;omega);have q0:w3.cell? ⟨g,m,none⟩=some (.iface t0 x0):=(hown3.cellAt m (by omega)).trans hx0;have q1:w3.cell? ⟨g,m+1,none⟩=some (.iface t1 x1):=(hown3.cellAt (m+1) (by omega)).trans hx1;clear hx0 hx1;have e0:w3.cell? ⟨wr.heap.size,0,none⟩=some (.int .i64 3):=(hb3.cell (by simp)).trans (by simp);have e1:w3.cell? ⟨wr.heap.size,1,none⟩=some (.slice sao 0 scp):=(hb3.cell (by simp)).trans (by simp);have e2:w3.cell? ⟨wr.heap.size,2,none⟩=some (.int .i64 0):=(hb3.cell (by simp)).trans (by simp);have e3:w3.cell? ⟨wr.heap.size,3,none⟩=some (.int .i64 0):=(hb3.cell (by simp)).trans (by simp);have e4:w3.cell? ⟨wr.heap.size,4,none⟩=some (.int .i64 0):=(hb3.cell (by simp)).trans (by simp);have i1:(0:Int)<=(m:Int):=by omega
    have i2:(m:Int)<=((m+2:Nat):Int):=by omega
    have i2':(m:Int)<=(m:Int)+2:=by omega
    have i3:((m+2:Nat):Int)<=(sc:Int):=by omega
    have i4:(m:Int)+2<=(sc:Int):=by omega
    have i5:(m:Int)<=(sc:Int):=by omega
    have i6:¬sc=m:=by omega
    go_region_held3 (fun w'=>w'.cell? ⟨wr.heap.size,0,none⟩=some (.int .i64 3)/\w'.cell? ⟨wr.heap.size,1,none⟩=some (.slice sao 0 scp)/\w'.cell? ⟨wr.heap.size,2,none⟩=some (.int .i64 0)/\w'.cell? ⟨wr.heap.size,3,none⟩=some (.int .i64 0)/\w'.cell? ⟨wr.heap.size,4,none⟩=some (.int .i64 0)) ((first|go_keep|exact⟨(hb4.cell (by exact hvar)).trans e0,(hb4.cell (by exact hvar)).trans e1,(hb4.cell (by exact hvar)).trans e2,(hb4.cell (by exact hvar)).trans e3,(hb4.cell (by exact hvar)).trans e4⟩)) ((go_at_call 157;refine(zrB _ _ _ _ _ g m (sc-m) w3.drew (by exact q0) (by exact q1)).mono ?_;rintro e w4 ⟨rfl,hb4⟩))
    have hown4:=zbv (zac (w:=w3.drew) hown3 hb4) (show m<=m+2 by omega);have hbb4:=zaa hbb3.drew hbb3.size hb4
    go_wp2_with (refine zau w4 rfl (.tmp 36) (.tmp 38) 155 rfl w.heap.size 184 i0 _ 16 Tryz.underlying155 hi hz0 hz1 hz2 rfl g sc m (xs.take m) _ rfl hown4 rfl rfl (by omega) (by omega) hbb4.size ?_;intro g' cap' w5 hown5 hgrow5 hat)
    go_roundw
    case rel=>
     obtain⟨st',xs',hl,h1,h2,h3,h4⟩:=zcU (nd:=⟨3,[],0,0,0⟩) HM.out rfl rfl hparts (zbt (zaa (zaa ((Below.refl _ _).alloc (zvJ _) _) (by simp) hb3).drew (zaa ((Below.refl _ _).alloc (zvJ _) _) (by simp) hb3).size hb4) hown4 hgrow5) Hn.out (show IsTr w5 _ (zbO ⟨3,[],0,0,0⟩ ((tstk ns k).drop m)) (zcT ⟨3,[],0,0,0⟩ (st.drop m)) by rw[tn3,wn3,(zen st m).1,(zen st m).2,(zds _ m).1,(zds _ m).2];exact zrx (hp0.keep (zbt (zaa (zaa ((Below.refl _ _).alloc (zvJ _) _) (by simp) hb3).drew (zaa ((Below.refl _ _).alloc (zvJ _) _) (by simp) hb3).size hb4) hown4 hgrow5)) (hp1.keep (zbt (zaa (zaa ((Below.refl _ _).alloc (zvJ _) _) (by simp) hb3).drew (zaa ((Below.refl _ _).alloc (zvJ _) _) (by simp) hb3).size hb4) hown4 hgrow5))) (by have:=HM.out;omega) hown5 HS.out HD2.out;exact⟨k+1,st',g',cap',xs',by omega,by go_num,by rw[hl],hbb4.grown hgrow5 hbb4.size (by intro q hq;cases hq;exact hgB),h1,h2,h3,h4⟩
    case measure=>simp[intOf];omega
   by_cases hk5:kd=5
   ·subst hk5;obtain⟨hr0,rfl,rfl⟩:=zpZ hnt;subst hr0;obtain⟨m,hm2⟩:∃m,st.length=m+1:=⟨st.length-1,by have:zaE 5=1:=rfl;omega⟩;have HM:Hid _:=hm2;rw[hm2] at hown hdc hdk ⊢;clear hm2
    go_wp2_with (first|(go_at_call 155;refine(zbM _ _).mono ?_;rintro e w2 ⟨rfl,rfl⟩;rw[show zaE 5=1 from rfl])|(go_at_call 156;refine(zbZ _ _ _ _ _ _ _ hsva).mono ?_;rintro e w3 ⟨rfl,hb3⟩))
    have hown3:=zac (hown.alloc _) hb3;have hz3:=hb3.size;have hvar:wr.heap.size<w3.heap.size:=zvL (by simp) hz3;have hbb3:=zaa hba hba.size hb3;obtain⟨t0,x0,hx0,hp0⟩:=hparts.2.1 m (by have:=HM.out;omega);have q0:w3.cell? ⟨g,m,none⟩=some (.iface t0 x0):=(hown3.cellAt m (by omega)).trans hx0;clear hx0;have e0:w3.cell? ⟨wr.heap.size,0,none⟩=some (.int .i64 5):=(hb3.cell (by simp)).trans (by simp);have e1:w3.cell? ⟨wr.heap.size,1,none⟩=some (.slice sao 0 scp):=(hb3.cell (by simp)).trans (by simp);have e2:w3.cell? ⟨wr.heap.size,2,none⟩=some (.int .i64 0):=(hb3.cell (by simp)).trans (by simp);have e3:w3.cell? ⟨wr.heap.size,3,none⟩=some (.int .i64 0):=(hb3.cell (by simp)).trans (by simp);have e4:w3.cell? ⟨wr.heap.size,4,none⟩=some (.int .i64 gr):=(hb3.cell (by simp)).trans (by simp);have i1:(0:Int)<=(m:Int):=by omega
    have i2:(m:Int)<=((m+1:Nat):Int):=by omega
    have i2':(m:Int)<=(m:Int)+1:=by omega
    have i3:((m+1:Nat):Int)<=(sc:Int):=by omega
    have i4:(m:Int)+1<=(sc:Int):=by omega
    have i5:(m:Int)<=(sc:Int):=by omega
    have i6:¬sc=m:=by omega
    go_region_held3 (fun w'=>w'.cell? ⟨wr.heap.size,0,none⟩=some (.int .i64 5)/\w'.cell? ⟨wr.heap.size,1,none⟩=some (.slice sao 0 scp)/\w'.cell? ⟨wr.heap.size,2,none⟩=some (.int .i64 0)/\w'.cell? ⟨wr.heap.size,3,none⟩=some (.int .i64 0)/\w'.cell? ⟨wr.heap.size,4,none⟩=some (.int .i64 gr)) ((first|go_keep|exact⟨(hb4.cell (by exact hvar)).trans e0,(hb4.cell (by exact hvar)).trans e1,(hb4.cell (by exact hvar)).trans e2,(hb4.cell (by exact hvar)).trans e3,(hb4.cell (by exact hvar)).trans e4⟩)) ((go_at_call 157;refine(zrC _ _ _ _ g m (sc-m) w3.drew (by exact q0)).mono ?_;rintro e w4 ⟨rfl,hb4⟩))
    have hown4:=zbv (zac (w:=w3.drew) hown3 hb4) (show m<=m+1 by omega);have hbb4:=zaa hbb3.drew hbb3.size hb4
    go_wp2_with (refine zau w4 rfl (.tmp 36) (.tmp 38) 155 rfl w.heap.size 184 i0 _ 16 Tryz.underlying155 hi hz0 hz1 hz2 rfl g sc m (xs.take m) _ rfl hown4 rfl rfl (by omega) (by omega) hbb4.size ?_;intro g' cap' w5 hown5 hgrow5 hat)
    go_roundw
    case rel=>
     obtain⟨st',xs',hl,h1,h2,h3,h4⟩:=zcU (nd:=⟨5,[],0,0,gr⟩) HM.out rfl rfl hparts (zbt (zaa (zaa ((Below.refl _ _).alloc (zvJ _) _) (by simp) hb3).drew (zaa ((Below.refl _ _).alloc (zvJ _) _) (by simp) hb3).size hb4) hown4 hgrow5) Hn.out (show IsTr w5 _ (zbO ⟨5,[],0,0,gr⟩ ((tstk ns k).drop m)) (zcT ⟨5,[],0,0,gr⟩ (st.drop m)) by rw[tn5,wn5,zgn,(zds _ m).1];exact zry (hp0.keep (zbt (zaa (zaa ((Below.refl _ _).alloc (zvJ _) _) (by simp) hb3).drew (zaa ((Below.refl _ _).alloc (zvJ _) _) (by simp) hb3).size hb4) hown4 hgrow5))) (by have:=HM.out;omega) hown5 HS.out HD2.out;exact⟨k+1,st',g',cap',xs',by omega,by go_num,by rw[hl],hbb4.grown hgrow5 hbb4.size (by intro q hq;cases hq;exact hgB),h1,h2,h3,h4⟩
    case measure=>simp[intOf];omega
   by_cases hk4:kd=4
   ·subst hk4;obtain⟨hr0,hbd,rfl⟩:=zg6 hnt;subst hr0;have HB:Hid _:=hbd;clear hbd;obtain⟨m,hm2⟩:∃m,st.length=m+1:=⟨st.length-1,by have:zaE 4=1:=rfl;omega⟩;have HM:Hid _:=hm2;rw[hm2] at hown hdc hdk ⊢;clear hm2
    go_wp2_with (first|(go_at_call 155;refine(zbM _ _).mono ?_;rintro e w2 ⟨rfl,rfl⟩;rw[show zaE 4=1 from rfl])|(go_at_call 156;refine(zbZ _ _ _ _ _ _ _ hsva).mono ?_;rintro e w3 ⟨rfl,hb3⟩))
    have hown3:=zac (hown.alloc _) hb3;have hz3:=hb3.size;have hvar:wr.heap.size<w3.heap.size:=zvL (by simp) hz3;have hbb3:=zaa hba hba.size hb3;obtain⟨t0,x0,hx0,hp0⟩:=hparts.2.1 m (by have:=HM.out;omega);have q0:w3.cell? ⟨g,m,none⟩=some (.iface t0 x0):=(hown3.cellAt m (by omega)).trans hx0;obtain⟨p0,hp0t,hpw,hpi⟩:=hp0;have hp3:zan w3.drew (.iface t0 x0) p0:=zan.keep (.of (zaa ((Below.refl _ _).alloc (zvJ _) _) (by simp) hb3).drew) _ _ hp0t;clear hp0t;clear hx0;have e0:w3.cell? ⟨wr.heap.size,0,none⟩=some (.int .i64 4):=(hb3.cell (by simp)).trans (by simp);have e1:w3.cell? ⟨wr.heap.size,1,none⟩=some (.slice sao 0 scp):=(hb3.cell (by simp)).trans (by simp);have e2:w3.cell? ⟨wr.heap.size,2,none⟩=some (.int .i64 mn):=(hb3.cell (by simp)).trans (by simp);have e3:w3.cell? ⟨wr.heap.size,3,none⟩=some (.int .i64 mx):=(hb3.cell (by simp)).trans (by simp);have e4:w3.cell? ⟨wr.heap.size,4,none⟩=some (.int .i64 0):=(hb3.cell (by simp)).trans (by simp);have i1:(0:Int)<=(m:Int):=by omega
    have i2:(m:Int)<=((m+1:Nat):Int):=by omega
    have i2':(m:Int)<=(m:Int)+1:=by omega
    have i3:((m+1:Nat):Int)<=(sc:Int):=by omega
    have i4:(m:Int)+1<=(sc:Int):=by omega
    have i5:(m:Int)<=(sc:Int):=by omega
    have i6:¬sc=m:=by omega
    go_region_held3 (fun w'=>w'.cell? ⟨wr.heap.size,0,none⟩=some (.int .i64 4)/\w'.cell? ⟨wr.heap.size,1,none⟩=some (.slice sao 0 scp)/\w'.cell? ⟨wr.heap.size,2,none⟩=some (.int .i64 mn)/\w'.cell? ⟨wr.heap.size,3,none⟩=some (.int .i64 mx)/\w'.cell? ⟨wr.heap.size,4,none⟩=some (.int .i64 0)) ((first|go_keep|exact⟨(hb4.cell (by exact hvar)).trans e0,(hb4.cell (by exact hvar)).trans e1,(hb4.cell (by exact hvar)).trans e2,(hb4.cell (by exact hvar)).trans e3,(hb4.cell (by exact hvar)).trans e4⟩)) ((go_at_call 157;refine(zpD _ _ p0 mn mx g m (sc-m) w3.drew (by exact q0) hp3 HB.out).mono ?_;rintro e w4 ⟨t4,x4,p4,rfl,hp4,hw4,hi4,hb4⟩))
    have hown4:=zbv (zac (w:=w3.drew) hown3 hb4) (show m<=m+1 by omega);have hbb4:=zaa hbb3.drew hbb3.size hb4
    go_wp2_with (refine zau w4 rfl (.tmp 36) (.tmp 38) 155 rfl w.heap.size 184 i0 _ 16 Tryz.underlying155 hi hz0 hz1 hz2 rfl g sc m (xs.take m) _ rfl hown4 rfl rfl (by omega) (by omega) hbb4.size ?_;intro g' cap' w5 hown5 hgrow5 hat)
    go_roundw
    case rel=>
     obtain⟨st',xs',hl,h1,h2,h3,h4⟩:=zcU (nd:=⟨4,[],mn,mx,0⟩) HM.out rfl rfl hparts (zbt (zaa (zaa ((Below.refl _ _).alloc (zvJ _) _) (by simp) hb3).drew (zaa ((Below.refl _ _).alloc (zvJ _) _) (by simp) hb3).size hb4) hown4 hgrow5) Hn.out (show IsTr w5 _ (zbO ⟨4,[],mn,mx,0⟩ ((tstk ns k).drop m)) (zcT ⟨4,[],mn,mx,0⟩ (st.drop m)) by rw[tn4,wn4,zgn,(zds _ m).1];exact zrz hpw hpi (zan.keep (zbt (Below.refl _ _) hown4 hgrow5) _ _ hp4) hw4 hi4) (by have:=HM.out;omega) hown5 HS.out HD2.out;exact⟨k+1,st',g',cap',xs',by omega,by go_num,by rw[hl],hbb4.grown hgrow5 hbb4.size (by intro q hq;cases hq;exact hgB),h1,h2,h3,h4⟩
    case measure=>simp[intOf];omega
   have hk1:kd=1:=by rcases zg7 hnt with h|h|h|h|h<;>omega
   ·subst hk1;obtain⟨hr0,rfl,rfl,rfl⟩:=zrX hnt;have HR:Hid _:=hr0;clear hr0 hk2 hk3 hk4 hk5;obtain⟨m,hm2⟩:∃m,st.length=m+0:=⟨st.length-0,by have:zaE 1=0:=rfl;omega⟩;have HM:Hid _:=hm2;rw[hm2] at hown hdc hdk ⊢;clear hm2
    by_cases hcm1:m=sc
    ·subst hcm1
     go_wp2_with (first|(go_at_call 155;refine(zbM _ _).mono ?_;rintro e w2 ⟨rfl,rfl⟩;rw[show zaE 1=0 from rfl])|(go_at_call 156;refine(zbZ _ _ _ _ _ _ _ hsva).mono ?_;rintro e w3 ⟨rfl,hb3⟩))
     have hown3:=zac (hown.alloc _) hb3;have hz3:=hb3.size;have hvar:wr.heap.size<w3.heap.size:=zvL (by simp) hz3;have hbb3:=zaa hba hba.size hb3;have e0:w3.cell? ⟨wr.heap.size,0,none⟩=some (.int .i64 1):=(hb3.cell (by simp)).trans (by simp);have e1:w3.cell? ⟨wr.heap.size,1,none⟩=some (.slice sao rs.length scp):=(hb3.cell (by simp)).trans (by simp);have e2:w3.cell? ⟨wr.heap.size,2,none⟩=some (.int .i64 0):=(hb3.cell (by simp)).trans (by simp);have e3:w3.cell? ⟨wr.heap.size,3,none⟩=some (.int .i64 0):=(hb3.cell (by simp)).trans (by simp);have e4:w3.cell? ⟨wr.heap.size,4,none⟩=some (.int .i64 0):=(hb3.cell (by simp)).trans (by simp);have hq1:zal lo w3.drew (.slice sao rs.length scp) rs:=hsva.below hb3.drew;have i1:(0:Int)<=(m:Int):=by omega
     have i2:(m:Int)<=((m+0:Nat):Int):=by omega
     have i2':(m:Int)<=(m:Int)+0:=by omega
     have i3:((m+0:Nat):Int)<=(m:Int):=by omega
     have i4:(m:Int)+0<=(m:Int):=by omega
     have i5:(m:Int)<=(m:Int):=by omega
     go_region_held3 (fun w'=>w'.cell? ⟨wr.heap.size,0,none⟩=some (.int .i64 1)/\w'.cell? ⟨wr.heap.size,1,none⟩=some (.slice sao rs.length scp)/\w'.cell? ⟨wr.heap.size,2,none⟩=some (.int .i64 0)/\w'.cell? ⟨wr.heap.size,3,none⟩=some (.int .i64 0)/\w'.cell? ⟨wr.heap.size,4,none⟩=some (.int .i64 0)) ((first|go_keep|exact⟨(hb4.cell (by exact hvar)).trans e0,(hb4.cell (by exact hvar)).trans e1,(hb4.cell (by exact hvar)).trans e2,(hb4.cell (by exact hvar)).trans e3,(hb4.cell (by exact hvar)).trans e4⟩)) ((go_at_call 157;refine(zmH _ _ _ _ (hq1) HR.out).mono ?_;rintro e w4 ⟨mg,rfl,hmg,hmr,hb4⟩))
     have hown4:=zbv (zac (w:=w3.drew) hown3 hb4) (show m<=m+0 by omega);have hbb4:=zaa hbb3.drew hbb3.size hb4
     go_wp2_with (refine zau w4 rfl (.tmp 36) (.tmp 38) 155 rfl w.heap.size 184 i0 _ 16 Tryz.underlying155 hi hz0 hz1 hz2 rfl g m m (xs.take m) _ rfl hown4 rfl rfl (by omega) (by omega) hbb4.size ?_;intro g' cap' w5 hown5 hgrow5 hat)
     go_roundw
     case rel=>
      obtain⟨st',xs',hl,h1,h2,h3,h4⟩:=zcU (nd:=⟨1,rs,0,0,0⟩) HM.out rfl rfl hparts (zbt (zaa (zaa ((Below.refl _ _).alloc (zvJ _) _) (by simp) hb3).drew (zaa ((Below.refl _ _).alloc (zvJ _) _) (by simp) hb3).size hb4) hown4 hgrow5) Hn.out (show IsTr w5 _ (zbO ⟨1,rs,0,0,0⟩ ((tstk ns k).drop m)) (zcT ⟨1,rs,0,0,0⟩ (st.drop m)) by rw[tn1,wn1];exact(zmG hmr).keep (zbt (Below.refl _ _) hown4 hgrow5)) (by have:=HM.out;omega) hown5 HS.out HD2.out;exact⟨k+1,st',g',cap',xs',by omega,by go_num,by rw[hl],hbb4.grown hgrow5 hbb4.size (by intro q hq;cases hq;exact hgB),h1,h2,h3,h4⟩
     case measure=>simp[intOf];omega
    ·have hcm2:¬sc=m:=fun h=>hcm1 h.symm
     clear hcm1
     go_wp2_with (first|(go_at_call 155;refine(zbM _ _).mono ?_;rintro e w2 ⟨rfl,rfl⟩;rw[show zaE 1=0 from rfl])|(go_at_call 156;refine(zbZ _ _ _ _ _ _ _ hsva).mono ?_;rintro e w3 ⟨rfl,hb3⟩))
     have hown3:=zac (hown.alloc _) hb3;have hz3:=hb3.size;have hvar:wr.heap.size<w3.heap.size:=zvL (by simp) hz3;have hbb3:=zaa hba hba.size hb3;have e0:w3.cell? ⟨wr.heap.size,0,none⟩=some (.int .i64 1):=(hb3.cell (by simp)).trans (by simp);have e1:w3.cell? ⟨wr.heap.size,1,none⟩=some (.slice sao rs.length scp):=(hb3.cell (by simp)).trans (by simp);have e2:w3.cell? ⟨wr.heap.size,2,none⟩=some (.int .i64 0):=(hb3.cell (by simp)).trans (by simp);have e3:w3.cell? ⟨wr.heap.size,3,none⟩=some (.int .i64 0):=(hb3.cell (by simp)).trans (by simp);have e4:w3.cell? ⟨wr.heap.size,4,none⟩=some (.int .i64 0):=(hb3.cell (by simp)).trans (by simp);have hq1:zal lo w3.drew (.slice sao rs.length scp) rs:=hsva.below hb3.drew;have i1:(0:Int)<=(m:Int):=by omega
     have i2:(m:Int)<=((m+0:Nat):Int):=by omega
     have i2':(m:Int)<=(m:Int)+0:=by omega
     have i3:((m+0:Nat):Int)<=(sc:Int):=by omega
     have i4:(m:Int)+0<=(sc:Int):=by omega
     have i5:(m:Int)<=(sc:Int):=by omega
     go_region_held3 (fun w'=>w'.cell? ⟨wr.heap.size,0,none⟩=some (.int .i64 1)/\w'.cell? ⟨wr.heap.size,1,none⟩=some (.slice sao rs.length scp)/\w'.cell? ⟨wr.heap.size,2,none⟩=some (.int .i64 0)/\w'.cell? ⟨wr.heap.size,3,none⟩=some (.int .i64 0)/\w'.cell? ⟨wr.heap.size,4,none⟩=some (.int .i64 0)) ((first|go_keep|exact⟨(hb4.cell (by exact hvar)).trans e0,(hb4.cell (by exact hvar)).trans e1,(hb4.cell (by exact hvar)).trans e2,(hb4.cell (by exact hvar)).trans e3,(hb4.cell (by exact hvar)).trans e4⟩)) ((go_at_call 157;refine(zmH _ _ _ _ (hq1) HR.out).mono ?_;rintro e w4 ⟨mg,rfl,hmg,hmr,hb4⟩))
     have hown4:=zbv (zac (w:=w3.drew) hown3 hb4) (show m<=m+0 by omega);have hbb4:=zaa hbb3.drew hbb3.size hb4
     go_wp2_with (refine zau w4 rfl (.tmp 36) (.tmp 38) 155 rfl w.heap.size 184 i0 _ 16 Tryz.underlying155 hi hz0 hz1 hz2 rfl g sc m (xs.take m) _ rfl hown4 rfl rfl (by omega) (by omega) hbb4.size ?_;intro g' cap' w5 hown5 hgrow5 hat)
     go_roundw
     case rel=>
      obtain⟨st',xs',hl,h1,h2,h3,h4⟩:=zcU (nd:=⟨1,rs,0,0,0⟩) HM.out rfl rfl hparts (zbt (zaa (zaa ((Below.refl _ _).alloc (zvJ _) _) (by simp) hb3).drew (zaa ((Below.refl _ _).alloc (zvJ _) _) (by simp) hb3).size hb4) hown4 hgrow5) Hn.out (show IsTr w5 _ (zbO ⟨1,rs,0,0,0⟩ ((tstk ns k).drop m)) (zcT ⟨1,rs,0,0,0⟩ (st.drop m)) by rw[tn1,wn1];exact(zmG hmr).keep (zbt (Below.refl _ _) hown4 hgrow5)) (by have:=HM.out;omega) hown5 HS.out HD2.out;exact⟨k+1,st',g',cap',xs',by omega,by go_num,by rw[hl],hbb4.grown hgrow5 hbb4.size (by intro q hq;cases hq;exact hgB),h1,h2,h3,h4⟩
     case measure=>simp[intOf];omega
  ·have hkk:k=ns.length:=by omega
   have HF:Hid (zdo ns []=some st):=by show _=_;rw[HS.out,zuW (by omega)];rfl
   by_cases hone:st.length=1
   ·obtain⟨t0,x0,hx0,hp0⟩:=hparts.2.1 0 (by omega);rw[hone] at hown ⊢;have q0:wr.cell? ⟨g,0,none⟩=some (.iface t0 x0):=(hown.cellAt 0 (by omega)).trans hx0;have Hone:Hid _:=hone;have HTL:Hid ((tstk ns k).length=1):=by show _=_;rw[hparts.2.2];exact Hone.out
    clear hone hx0;go_wp2
    go_ret2
    refine⟨hb,.inr ⟨st.getD 0 0,t0,x0,?_,rfl,?_⟩⟩
    rotate_left
    ·rw[hkk] at hp0 HTL;rw[zqO ns (by have:=Hone.out;omega) HTL.out] at hp0;exact hp0
    unfold ze8;rw[HF.out]
    match st,Hone.out with
    |[a],_=>rfl
   ·have hne:(((st.length:Nat):Int) != 1)=true:=by rw[bne_iff_ne];omega
    have Hone:Hid _:=hone;clear hone;go_wp2
    go_ret2
    refine⟨hb,.inl ⟨?_,rfl⟩⟩;unfold ze8;rw[HF.out]
    match st,Hone.out with
    |[],_=>rfl
    |[a],h=>exact absurd rfl h
    |_::_::_,_=>rfl
end
section
variable{w:World}{xs:List Value}{st:List Int}{ts:List Pt}{lo:Nat}
attribute [local go_sem ↓] Go.wp_at_zero Go.wp_at_succ
def zcY(bs:List zah):List Pt:=bs.map fun b=>tOf b.nodes (b.nodes.length-1)
theorem zib(bs:List zah):(zcY bs).length=bs.length:=by simp[zcY]
theorem zbY.keep{w':World}(h:zbY w xs st ts)(hk:zaT w w'):zbY w' xs st ts:=
 ⟨h.1,fun j hj=>by obtain⟨t,x,h1,h2⟩:=h.2.1 j hj;exact⟨t,x,h1,h2.keep hk⟩,h.2.2⟩
theorem zoC{bs:List zah}{k:Nat}(h:zbY w xs st ((zcY bs).take k))(hk:k<bs.length)(hst:st.length=k){t:TypeId}{x:Value}{wt:Int}
  (hp:IsTr w (.iface t x) (tOf (bs.getD k .zero).nodes ((bs.getD k .zero).nodes.length-1)) wt):zbY w (xs++[.iface t x]) (st++[wt]) ((zcY bs).take (k+1)):=by
 have hb:=zib bs;have hx:=h.1;refine⟨by simp[hx],fun j hj=>?_,by simp;omega⟩;simp only[zvh,zvi,zvk] at hj
 by_cases e:j=k
 ·subst e;refine⟨t,x,?_,?_⟩
  ·rw[zu6 (by omega),hx,hst,zvR];rfl
  ·have e1:(st++[wt]).getD j 0=wt:=by rw[zu3,zu6 (by omega),hst,zvR];rfl
   have e2:((zcY bs).take (j+1)).getD j zbG=tOf (bs.getD j .zero).nodes ((bs.getD j .zero).nodes.length-1):=by
    rw[zu3,zvf,zv3 (by omega)];simp[zcY,hk]
   rw[e1,e2];exact hp
 ·obtain⟨t',x',h1,h2⟩:=h.2.1 j (by omega);refine⟨t',x',by rw[zu5 (by omega)];exact h1,?_⟩;have e1:(st++[wt]).getD j 0=st.getD j 0:=by rw[zu3,zu5 (by omega),zu3]
  have e2:((zcY bs).take (k+1)).getD j zbG=((zcY bs).take k).getD j zbG:=by
   rw[zu3,zu3,zvf,zvf,zv3 (by omega),zv3 (by omega)]
  rw[e1,e2];exact h2
def zf1:Pt->Nat
 |.set _=>1
 |.seq l r=>zf1 l+zf1 r+1
 |.alt l r=>zf1 l+zf1 r+1
 |.rep b _ _=>zf1 b+1
 |.grp b _=>zf1 b+1
theorem zdb:∀(p:Pt) (v:Value),zan w v p->zbd (zf1 p) v (wPt p)
 |.set _,_,⟨_,h,_⟩=>.inl ⟨_,h,rfl⟩
 |.seq l r,_,⟨lv,rv,h,h1,h2⟩=>.inr (.inl ⟨lv,rv,_,_,h,zbd.mono _ _ _ _ (Nat.le_add_right _ _) (zdb l lv h1),zbd.mono _ _ _ _ (Nat.le_add_left _ _) (zdb r rv h2),rfl⟩)
 |.alt l r,_,⟨lv,rv,h,h1,h2⟩=>.inr (.inr (.inl ⟨lv,rv,_,_,h,zbd.mono _ _ _ _ (Nat.le_add_right _ _) (zdb l lv h1),zbd.mono _ _ _ _ (Nat.le_add_left _ _) (zdb r rv h2),rfl⟩))
 |.rep b mn mx,_,⟨lv,h,h1,h2⟩=>.inr (.inr (.inr (.inl ⟨lv,_,mn,mx,h,zdb b lv h1,h2,rfl⟩)))
 |.grp b g,_,⟨lv,h,h1⟩=>.inr (.inr (.inr (.inr ⟨lv,g,h,zdb b lv h1⟩)))
theorem zbY.parts(h:zbY w xs st ts):∃N,znm N xs st:=by
 have key:∀m,m<=st.length->∃N,∀j,j<m->∃t x,xs[j]?=some (.iface t x)/\zbd N (.iface t x) (st.getD j 0):=by
  intro m
  induction m with
  |zero=>intro _;exact⟨0,fun j hj=>absurd hj (zvQ _)⟩
  |succ m ih=>
   intro hm;obtain⟨N,hN⟩:=ih (by omega);obtain⟨t,x,hx,p,hp,hw,_⟩:=h.2.1 m (by omega);refine⟨N+zf1 p,fun j hj=>?_⟩
   by_cases e:j=m
   ·subst e;exact⟨t,x,hx,by rw[<-hw];exact zbd.mono _ _ _ _ (Nat.le_add_left _ _) (zdb p _ hp)⟩
   ·obtain⟨t',x',h1,h2⟩:=hN j (by omega);exact⟨t',x',h1,zbd.mono _ _ _ _ (Nat.le_add_right _ _) h2⟩
 obtain⟨N,hN⟩:=key st.length (zvJ _);exact⟨N,h.1,hN⟩
theorem zgj(v:Value)(bs:List zah)(w:World)(hs:zao lo w v bs)(hsm:Small bs):
  Calls Tryz.prog 120 #[v] w fun e w'=>Below w.heap.size w w'/\((za8 bs=none/\e=.returned (.tuple #[.slice none 0 0,.bool false]))\/
   ∃(st:List Int) (xs:List Value) (g sc:Nat),za8 bs=some st/\st.length=bs.length/\e=.returned (.tuple #[.slice (some ⟨g,0,none⟩) st.length sc,.bool true])/\w'.ownsRow w.heap.size 184 1 (.slice (some ⟨g,0,none⟩) st.length sc) st.length xs/\zbY w' xs st (zcY bs)):=by
 obtain⟨ao,cap,rfl,hm,hc⟩:=hs;have hn:=hsm.1;obtain⟨i0,hi,hz0,hz1,hz2⟩:=info_parts Tryz.infoPart
 go_enter Tryz.func120,Tryz.ntmps120
 go_wp2_with (refine wpList_make_own _ rfl _ _ 155 rfl w.heap.size 184 i0 _ 1 Tryz.underlying155 hi hz0 hz1 _ _ _ bs.length rfl rfl rfl (by rw[hz2];omega) (by unfold maxLen;omega) (zvJ _) ?_;intro w1 hown hgrow)
 have hbw:Below w.heap.size w w1:=(Below.refl _ _).grown hgrow (zvJ _) (by intro k h;cases h);clear hgrow
 go_loopw [4,14] (fun s i wr=>∃(k:Nat) (st:List Int) (g sc:Nat) (xs:List Value),k<=bs.length/\st.length=k/\i=.int .i64 k/\s=.slice (some ⟨g,0,none⟩) st.length sc/\Below w.heap.size w wr/\wr.ownsRow w.heap.size 184 1 (.slice (some ⟨g,0,none⟩) st.length sc) st.length xs/\zbY wr xs st ((zcY bs).take k)/\Hid (za8 bs=(za8 (bs.drop k)).map (st ++ ·)))
  (fun _ i _=>bs.length-(intOf i).toNat)
 case atStart=>exact⟨0,[],_,_,[],zvT _,rfl,rfl,rfl,hbw,hown,⟨rfl,fun j hj=>absurd hj (zvQ _),rfl⟩,by show _=_;simp⟩
 case round=>
  obtain⟨k,st,g,sc,xs,hk,hstk,rfl,rfl,hb,hown,hparts,HS⟩:=hrel;obtain⟨hgB,hgl,hdc,hcm⟩:=zbu hown;have HK:Hid (st.length=k):=hstk
  by_cases hlt:k<bs.length
  ·obtain⟨b,o,nv,bd,rfl,Hn,hbl,c0,c1,c2,hnv⟩:=hc.elem hb hlt;have hz:=hb.size;have hnl:bd.nodes.length<=1048576:=by have:=(hsm.2 k hlt).1;rw[Hn.out] at this;exact this
   obtain⟨nao,ncp,rfl,hnm,hnc⟩:=hnv;have hba:Below w.heap.size w (wr.alloc (.cells #[.bool bd.bol,.bool bd.eol,.slice nao bd.nodes.length ncp] 115)):=hb.alloc hz _;have hnva:zaI lo (wr.alloc (.cells #[.bool bd.bol,.bool bd.eol,.slice nao bd.nodes.length ncp] 115)) (.slice nao bd.nodes.length ncp) bd.nodes:=zaI.below ⟨_,_,rfl,hnm,hnc⟩ ((Below.refl _ _).alloc (zvJ _) _);generalize hdd:st.length=d at *;have Hdd:Hid _:=hdd;clear hdd;subst hstk
   go_wp2_with fail
   refine(zrM _ _ _ hnva hnl).mono ?_;rintro e w2 ⟨hb2,⟨hf,rfl⟩|⟨wt,t,x,hf,rfl,hp⟩⟩
   ·have Hf:Hid _:=hf;clear hf;go_wp2
    go_ret2
    refine⟨zaa hba hba.size hb2,.inl ⟨?_,rfl⟩⟩;rw[HS.out,zj9 bs _ hlt bd Hn.out Hf.out]
    rfl
   ·have Hf:Hid _:=hf;clear hf;have hown2:=zac (hown.alloc (.cells #[.bool bd.bol,.bool bd.eol,.slice nao bd.nodes.length ncp] 115)) hb2;have hbb2:=zaa hba hba.size hb2
    go_wp2_with (refine zau w2 rfl (.tmp 26) (.tmp 28) 155 rfl w.heap.size 184 i0 _ 16 Tryz.underlying155 hi hz0 hz1 hz2 rfl g sc d xs _ rfl hown2 rfl rfl (by omega) (by omega) hbb2.size ?_;intro g' cap' w5 hown5 hgrow5 hat)
    go_roundw
    case rel=>
     have hl:(st++[wt]).length=d+1:=by have:=Hdd.out;simp;omega
     have hK:zaT wr w2:=zaT.of (zaa ((Below.refl _ _).alloc (zvJ _) _) (by simp) hb2);obtain⟨cur,hcur⟩:=zjj hown2;have hG:zaT w2 w5:=zaT.grown hgrow5 hcur (by decide);have hps:zbY w5 (xs++[.iface t x]) (st++[wt]) ((zcY bs).take (d+1)):=by
      refine zoC (hparts.keep (hK.trans hG)) hlt (by have:=Hdd.out;omega) ?_;rw[Hn.out];exact hp.keep hG
     exact⟨d+1,st++[wt],g',cap',xs++[.iface t x],by omega,hl,by go_num,by rw[hl],hbb2.grown hgrow5 hbb2.size (by intro q hq;cases hq;exact hgB),by rw[hl];exact hown5,hps,zkb HS.out (zka bs _ hlt bd Hn.out wt Hf.out)⟩
    case measure=>simp[intOf];omega
  ·have hkk:bs.drop k=[]:=zuW (by omega);have hnl2:st.length=bs.length:=by omega
   have Hnl:Hid _:=hnl2;clear hstk hnl2;go_wp2
   go_ret2
   refine⟨hb,.inr ⟨st,xs,g,sc,?_,Hnl.out,rfl,hown,by rw[zvC (by rw[zib];omega)] at hparts;exact hparts⟩⟩;rw[HS.out,hkk];simp[za8]
def zuB(w:World)(G:Int)(bs:List zah)(e:Ending)(w':World):Prop:=
 Below w.heap.size w w'/\((zdY G bs=false/\∃pv,e=.returned (.tuple #[pv,.bool false]))\/(zdY G bs=true/\∃(st:List Int) (xs:List Value) (B g sc:Nat),za8 bs=some st/\st.length=bs.length/\zbo st<=2000/\e=.returned (.tuple #[.slice (some ⟨g,0,none⟩) st.length sc,.bool true])/\w'.ownsRow B 184 1 (.slice (some ⟨g,0,none⟩) st.length sc) st.length xs/\zbY w' xs st (zcY bs)))
theorem zkc(G:Int)(v:Value)(bs:List zah)(w:World)(hs:zao lo w v bs)(hsm:Small bs):
  Calls Tryz.prog 96 #[.agg #[v,.int .i64 G]] w fun e w'=>zuB w G bs e w':=by
 have hn:=hsm.1;have hs0:=hs;obtain⟨ao,cap,rfl,hm,hc⟩:=hs;have hb0:Below w.heap.size w (w.alloc (.cells #[.slice ao bs.length cap,.int .i64 G] 69)):=(Below.refl _ _).alloc (zvJ _) _;have Hfalse:∀{b:Bool},zdY G bs=b->Hid (zdY G bs=b):=fun h=>h
 by_cases h1:(bs.length:Int)<1
 ·have H:=Hfalse (b:=false) (by simp[zdY];omega);clear Hfalse
  go_enter Tryz.func96,Tryz.ntmps96
  go_wp2
  go_ret2
  exact⟨hb0,.inl ⟨H.out,_,rfl⟩⟩
 by_cases h2:2000<(bs.length:Int)
 ·have H:=Hfalse (b:=false) (by simp[zdY];omega);clear Hfalse
  go_enter Tryz.func96,Tryz.ntmps96
  go_wp2
  go_ret2
  exact⟨hb0,.inl ⟨H.out,_,rfl⟩⟩
 by_cases h3:G<0
 ·have H:=Hfalse (b:=false) (by simp[zdY];omega);clear Hfalse
  go_enter Tryz.func96,Tryz.ntmps96
  go_wp2
  go_ret2
  exact⟨hb0,.inl ⟨H.out,_,rfl⟩⟩
 by_cases h4:500<G
 ·have H:=Hfalse (b:=false) (by simp[zdY];omega);clear Hfalse
  go_enter Tryz.func96,Tryz.ntmps96
  go_wp2
  go_ret2
  exact⟨hb0,.inl ⟨H.out,_,rfl⟩⟩
 have HA:Hid (zdY G bs=(decide (zaF bs<=5000)&&zcj G [] (zba bs)&&match za8 bs with
  |none=>false
  |some st=>decide (zbo st<=2000))):=by
  show _=_;unfold zdY;have e1:decide (1<=bs.length/\bs.length<=2000)=true:=by simp;omega
  have e2:decide (0<=G/\G<=500)=true:=by simp;omega
  rw[e1,e2];simp only[zuN];cases za8 bs<;>rfl
 clear Hfalse;have hnc:=zdi hsm bs.length (zvJ _);rw[zvB] at hnc
 go_enter Tryz.func96,Tryz.ntmps96
 go_wp2_with fail
 refine(ziT _ bs _ (hs0.below hb0) hsm).mono ?_;rintro e w1 ⟨rfl,hb1⟩;have k0:w1.cell? ⟨w.heap.size,0,none⟩=some (.slice ao bs.length cap):=(hb1.cell (by simp)).trans (by simp);have k1:w1.cell? ⟨w.heap.size,1,none⟩=some (.int .i64 G):=(hb1.cell (by simp)).trans (by simp);have hz1:w.heap.size<w1.heap.size:=zvL (by simp) hb1.size;have hbb1:=zaa hb0 hb0.size hb1
 by_cases h5:5000<(zaF bs:Int)
 ·have H:Hid (zdY G bs=false):=by
   show _=_;rw[HA.out];have:decide (zaF bs<=5000)=false:=by simp;omega
   rw[this];simp
  clear HA;go_wp2
  go_ret2
  exact⟨hbb1,.inl ⟨H.out,_,rfl⟩⟩
 go_wp2_with fail
 refine(zls G _ bs _ (hs0.below hbb1) hsm (by omega) (by omega)).mono ?_;rintro e w2 ⟨rfl,hb2⟩;have m0:w2.cell? ⟨w.heap.size,0,none⟩=some (.slice ao bs.length cap):=(hb2.cell (by exact hz1)).trans k0;have hbb2:=zaa hbb1 hbb1.size hb2;have hz2:w.heap.size<w2.heap.size:=zvL hz1 hb2.size;have e5:decide (zaF bs<=5000)=true:=by simp;omega
 rw[e5,zuN] at HA;clear e5 k0 k1 hb1 hb2
 by_cases h6:zcj G [] (zba bs)=false
 ·have H:Hid (zdY G bs=false):=by show _=_;rw[HA.out,h6];simp
  clear HA;go_wp2
  go_ret2
  exact⟨hbb2,.inl ⟨H.out,_,rfl⟩⟩
 have h6':zcj G [] (zba bs)=true:=by simpa using h6
 clear h6;rw[h6',zuN] at HA
 go_wp2_with fail
 refine(zgj _ bs _ (hs0.below hbb2) hsm).mono ?_;rintro e w3 ⟨hb3,⟨hf,rfl⟩|⟨st,xs,g,sc,hf,hl,rfl,hown,htrees⟩⟩
 ·have H:Hid (zdY G bs=false):=by show _=_;rw[HA.out,hf]
  clear HA hf;go_wp2
  go_ret2
  exact⟨zaa hbb2 hbb2.size hb3,.inl ⟨H.out,_,rfl⟩⟩
 ·have H:Hid (zdY G bs=decide (zbo st<=2000)):=by show _=_;rw[HA.out,hf]
  have hst:st.length<=2000000:=by omega
  obtain⟨N,hparts⟩:=htrees.parts;have Hf:Hid _:=hf;have Hl:Hid _:=hl;clear HA hf hl;have hbb3:=zaa hbb2 hbb2.size hb3;have hsb:=zeg hparts st.length (zvJ _);rw[zvB] at hsb
  by_cases h7:2000<zbo st
  ·go_wp2_with fail
   refine(zdq st xs _ hown hparts hst).mono ?_;rintro e w4 ⟨rfl,hb4⟩;go_wp2
   go_ret2
   exact⟨zaa hbb3 hbb3.size hb4,.inl ⟨by rw[H.out];simp;omega,_,rfl⟩⟩
  ·go_wp2_with fail
   refine(zdq st xs _ hown hparts hst).mono ?_;rintro e w4 ⟨rfl,hb4⟩;go_wp2
   go_ret2
   exact⟨zaa hbb3 hbb3.size hb4,.inr ⟨by rw[H.out];simp;omega,st,xs,_,g,sc,Hf.out,Hl.out,by omega,rfl,zac hown hb4,htrees.keep (zaT.of hb4)⟩⟩
end
variable{b c:Bool}{g nw n bt ga gl ha hl:Nat}{w W:World}{T fr A L A' L':Nat -> Nat}{sv fv:Value}{F:Nat -> Nat -> Nat}
theorem zad{a b:Array Value}{t u:TypeId}{f g:Nat×Nat}(h:some (Obj.cells a t f)=some (Obj.cells b u g)):t=u:=by
 injection h with h
 injection h
theorem zsE{k:Nat}(hB:za7 w)(h:zar w nw k T):k≠0:=by
 rintro rfl;have h1:=hB 0 (by omega);rw[zvW _ _ _ _ _ _ h.row] at h1
 by_cases hn:0<nw
 ·rw[zfn _ _ hn] at h1;cases h1
 ·rw[zuG (by simp[zcS];omega)] at h1;cases h1
theorem zbK(hB:za7 w):0<w.heap.size:=block_lt_of_cell (hB 0 (by omega))
structure TrkL(w:World)(n nw bt:Nat)(sv fv:Value)(fr:Nat->Nat)(F:Nat->Nat->Nat):Prop where
 box:zfu w bt nw sv fv
 fv:0<n->∃(gf cf:Nat) (cur:Array Value),fv=.slice (some ⟨gf,0,none⟩) n cf/\w.heap[gf]?=some (.cells cur 193 (0,0))/\∀p,p<n->cur[p]?=some (.slice (some ⟨fr p,0,none⟩) nw nw)
 fol:Fol w n nw fr F
 n64:n<=64*nw
 nwl:nw<=1000
 bru:za7 w
theorem TrkL.turn{S:Nat->Prop}{F':Nat->Nat->Nat}(h:TrkL w n nw bt sv fv fr F)(t:zam S w W)(hS:∀k,k<w.heap.size->S k->∃m T,zar w m k T)(hf:Fol W n nw fr F'):TrkL W n nw bt sv fv fr F':=by
 have hkeep:∀(k:Nat) (o:Obj),w.heap[k]?=some o->(∀m T,¬zar w m k T)->W.heap[k]?=some o:=fun k o hk hn=>by
  have hlt:=(zuH.1 hk).1;refine(t.same k hlt (fun hs=>?_)).trans hk;obtain⟨m,T,hp⟩:=hS k hlt hs;exact hn m T hp
 refine⟨?_,fun hn=>?_,hf,h.n64,h.nwl,?_⟩
 ·exact hkeep _ _ h.box (fun m T hp=>by have:=hp.row;rw[h.box] at this;exact absurd (zad this) (by decide))
 ·obtain⟨gf,cf,cur,h1,h2,h3⟩:=h.fv hn;exact⟨gf,cf,cur,h1,hkeep _ _ h2 (fun m T hp=>by have:=hp.row;rw[h2] at this;exact absurd (zad this) (by decide)),h3⟩
 ·refine h.bru.keep (t.same 0 (zbK h.bru) (fun hs=>?_));obtain⟨m,T,hp⟩:=hS 0 (zbK h.bru) hs;exact zsE h.bru hp rfl
theorem zmN(n nw bt g1 c1 g2 c2:Nat)(sv fv:Value)(fr:Nat->Nat)(F:Nat->Nat->Nat)(T1 T2:Nat->Nat)(w:World)(h:TrkL w n nw bt sv fv fr F)(h1:zar w nw g1 T1)(h2:zar w nw g2 T2)
  (hd1:∀p,p<n->fr p≠g1) (hd2:∀p,p<n->fr p≠g2) (hm:∀p,p<64*nw->zai T1 p=true->p<n):
  Calls Tryz.prog 202 #[.pointer (some ⟨bt,0,none⟩),.slice (some ⟨g1,0,none⟩) nw c1,.slice (some ⟨g2,0,none⟩) nw c2] w fun e w'=>e=.returned (.tuple #[])/\TrkL w' n nw bt sv fv fr (fun p=>if zai T1 p=true then orT (F p) T2 else F p)/\zam (fun k=>∃p,p<n/\k=fr p) w w':=by
 refine(ztq n nw bt g1 c1 g2 c2 sv fv fr F T1 T2 w h.box (fun hn=>?_) h.fol h1 h2 hd1 hd2 (fun p hp=>zsE h.bru (h.fol.rows p hp)) (fun p hp e=>?_) hm h.n64 h.nwl h.bru (zbK h.bru)).mono fun e w' hw=>⟨hw.1,h.turn hw.2.2 (fun k _ ⟨p,hp,e⟩=>⟨nw,F p,e ▸ h.fol.rows p hp⟩) hw.2.1,hw.2.2⟩
 ·obtain⟨gf,cf,cur,k1,k2,k3⟩:=h.fv hn;refine⟨gf,cf,k1,(zuH.1 k2).1,fun p hp=>by rw[zvW _ _ _ _ _ _ k2];exact k3 p hp,fun p hp e=>?_⟩;have:=(h.fol.rows p hp).row;rw[e,k2] at this;exact absurd (zad this) (by decide)
 ·have:=(h.fol.rows p hp).row;rw[e,h.box] at this;exact absurd (zad this) (by decide)
def zsU(w:World)(n nw bt:Nat)(sv fv:Value)(fr:Nat->Nat)(F:Nat->Nat->Nat)(ga hl:Nat)(b:Bool)(A L:Nat->Nat)(e:Ending)(w':World):Prop:=
 e=.returned (.agg #[.bool b,.slice (some ⟨ga,0,none⟩) nw nw,.slice (some ⟨hl,0,none⟩) nw nw])/\FrAt w' nw ga hl A L/\TrkL w' n nw bt sv fv fr F/\zam (fun k=>k=ga\/k=hl\/∃p,p<n/\k=fr p) w w'
theorem TrkL.join(h:TrkL w n nw bt sv fv fr F)(hg:w.grownBy W (some g))(hp:zar w nw g T)(hd:∀p,p<n->fr p≠g):TrkL W n nw bt sv fv fr F:=
 h.turn ((zam.refl (fun k=>k=g) w).grown hg (fun k e=>by cases e;exact .inl rfl)) (fun k _ e=>⟨nw,T,e ▸ hp⟩) ⟨fun p hp'=>(h.fol.rows p hp').grown hg (by simpa using hd p hp'),h.fol.inj⟩
theorem TrkL.below(h:TrkL w n nw bt sv fv fr F)(hb:Below w.heap.size w W):TrkL W n nw bt sv fv fr F:=
 h.turn (zam.of_below (S:=fun _=>False) hb) (fun _ _ e=>e.elim) ⟨fun p hp=>(h.fol.rows p hp).below hb,h.fol.inj⟩
theorem TrkL.put{b o:Nat}{v:Value}{cs:Array Value}{t:TypeId}(h:TrkL w n nw bt sv fv fr F)(hb:w.heap[b]?=some (.cells cs t (0,0)))(h1:t≠268)(h2:t≠193)(h3:t≠236)(h4:b≠0):TrkL (w.setCell ⟨b,o,none⟩ v) n nw bt sv fv fr F:=by
 have hk:∀(k:Nat) (a:Array Value) (u:TypeId),w.heap[k]?=some (.cells a u (0,0))->t≠u->(w.setCell ⟨b,o,none⟩ v).heap[k]?=some (.cells a u (0,0)):=fun k a u hk hne=>
  ((zaK w b o v).block k (zuH.1 hk).1 (fun e=>by cases e;rw[hb] at hk;exact hne (zad hk))).trans hk
 refine⟨hk _ _ _ h.box h1,fun hn=>?_,⟨fun p hp=>⟨hk _ _ _ (h.fol.rows p hp).row h3,(h.fol.rows p hp).lt⟩,h.fol.inj⟩,h.n64,h.nwl,h.bru.keep ((zaK w b o v).block 0 (zbK h.bru) (fun e=>h4 (by cases e;rfl)))⟩;obtain⟨gf,cf,cur,k1,k2,k3⟩:=h.fv hn;exact⟨gf,cf,cur,k1,hk _ _ _ k2 h2,k3⟩
structure SqS(w W:World)(n nw bt ga gl ha hl:Nat)(b c:Bool)(sv fv:Value)(fr:Nat->Nat)(F:Nat->Nat->Nat)(A L A' L':Nat->Nat):Prop where
 r4:W.heap[w.heap.size]?=some (.cells #[.bool b,.slice (some ⟨ga,0,none⟩) nw nw,.slice (some ⟨gl,0,none⟩) nw nw] 226 (0,0))
 r5:W.heap[w.heap.size+1]?=some (.cells #[.bool c,.slice (some ⟨ha,0,none⟩) nw nw,.slice (some ⟨hl,0,none⟩) nw nw] 226 (0,0))
 r6:W.heap[w.heap.size+1+1]?=some (.cells #[.bool false,.slice none 0 0,.slice none 0 0] 226 (0,0))
 fa:zar W nw ga A
 la:zar W nw gl L
 fb:zar W nw ha A'
 lb:zar W nw hl L'
 tk:TrkL W n nw bt sv fv fr F
 t:zam (fun k=>k=ga\/k=hl\/∃p,p<n/\k=fr p) w W
theorem SqS.join{W2:World}{A2 L2:Nat->Nat}(h:SqS w W n nw bt ga gl ha hl b c sv fv fr F A L A' L')(hg:W.grownBy W2 (some g))(hl1:ga<w.heap.size)(hl2:hl<w.heap.size)(hg1:g=ga\/g=hl)
  (ngl:g≠gl) (nha:g≠ha) (hfr:∀p,p<n->fr p≠g) (ha2:zar W2 nw ga A2) (hl2':zar W2 nw hl L2):SqS w W2 n nw bt ga gl ha hl b c sv fv fr F A2 L A' L2:=by
 have hk:∀(k:Nat) (o:Obj),W.heap[k]?=some o->k≠g->W2.heap[k]?=some o:=fun k o hk hne=>(hg.block k (zuH.1 hk).1 (by simpa using hne)).trans hk
 have hgp:∃T,zar W nw g T:=by rcases hg1 with e|e<;>subst e;exact⟨_,h.fa⟩;exact⟨_,h.lb⟩
 obtain⟨T,hT⟩:=hgp;exact⟨hk _ _ h.r4 (by omega),hk _ _ h.r5 (by omega),hk _ _ h.r6 (by omega),ha2,h.la.grown hg (by simpa using ngl.symm),h.fb.grown hg (by simpa using nha.symm),hl2',h.tk.join hg hT hfr,h.t.grown hg (fun k e=>by cases e;rcases hg1 with e|e;exact .inl (.inl e);exact .inl (.inr (.inl e)))⟩
theorem SqS.done{v:Bool}(h:SqS w W n nw bt ga gl ha hl b c sv fv fr F A L A' L')(hl1:ga<w.heap.size)(hl2:hl<w.heap.size)(hne:ga≠hl)(v0 v1 v2:Value):
  zsU w n nw bt sv fv fr F ga hl v A L' (.returned (.agg #[.bool v,.slice (some ⟨ga,0,none⟩) nw nw,.slice (some ⟨hl,0,none⟩) nw nw])) (((W.setCell ⟨w.heap.size+1+1,0,none⟩ v0).setCell ⟨w.heap.size+1+1,1,none⟩ v1).setCell ⟨w.heap.size+1+1,2,none⟩ v2):=by
 have hs:∀(X:World) (o:Nat) (u:Value) (cs:Array Value),X.heap[w.heap.size+1+1]?=some (.cells cs 226 (0,0))->∃cs',(X.setCell ⟨w.heap.size+1+1,o,none⟩ u).heap[w.heap.size+1+1]?=some (.cells cs' 226 (0,0)):=fun X o u cs hx=>⟨_,zv1 X _ o _ _ u hx⟩
 obtain⟨c1,k1⟩:=hs W 0 v0 _ h.r6;obtain⟨c2,k2⟩:=hs _ 1 v1 _ k1;have t0:=h.tk.put (o:=0) (v:=v0) h.r6 (by decide) (by decide) (by decide) (by omega);have t1:=t0.put (o:=1) (v:=v1) k1 (by decide) (by decide) (by decide) (by omega);have t2:=t1.put (o:=2) (v:=v2) k2 (by decide) (by decide) (by decide) (by omega);exact⟨rfl,⟨((h.fa.put (by omega)).put (by omega)).put (by omega),((h.lb.put (by omega)).put (by omega)).put (by omega),hne⟩,t2,
  ((h.t.grown (zaK _ _ _ _) (fun g e=>.inr (by cases e;omega))).grown (zaK _ _ _ _) (fun g e=>.inr (by cases e;omega))).grown (zaK _ _ _ _) (fun g e=>.inr (by cases e;omega))⟩
theorem zmc(n nw bt ga gl ha hl:Nat)(b c:Bool)(sv fv:Value)(fr:Nat->Nat)(F:Nat->Nat->Nat)(A L A' L':Nat->Nat)(w:World)(h:TrkL w n nw bt sv fv fr F)(h1:FrAt w nw ga gl A L)(h2:FrAt w nw ha hl A' L')
  (d1:ga≠ha) (d2:ga≠hl) (d4:gl≠hl) (e1:∀p,p<n->fr p≠ga) (e2:∀p,p<n->fr p≠gl) (e3:∀p,p<n->fr p≠ha) (e4:∀p,p<n->fr p≠hl) (hm:∀p,p<64*nw->zai L p=true->p<n):
  Calls Tryz.prog 187 #[.pointer (some ⟨bt,0,none⟩),.agg #[.bool b,.slice (some ⟨ga,0,none⟩) nw nw,.slice (some ⟨gl,0,none⟩) nw nw],.agg #[.bool c,.slice (some ⟨ha,0,none⟩) nw nw,.slice (some ⟨hl,0,none⟩) nw nw]] w fun e w'=>
   zsU w n nw bt sv fv fr (fun p=>if zai L p=true then orT (F p) A' else F p) ga hl (b&&c) (if b=true then orT A A' else A) (if c=true then orT L' L else L') e w':=by
 obtain⟨F2,hF2⟩:∃F2,(fun p=>if zai L p=true then orT (F p) A' else F p)=F2:=⟨_,rfl⟩;rw[hF2];have hnw:=h.nwl;obtain⟨W0,hW0⟩:∃W0,((w.alloc (.cells #[.bool b,.slice (some ⟨ga,0,none⟩) nw nw,.slice (some ⟨gl,0,none⟩) nw nw] 226)).alloc (.cells #[.bool c,.slice (some ⟨ha,0,none⟩) nw nw,.slice (some ⟨hl,0,none⟩) nw nw] 226)).alloc (.cells #[.bool false,.slice none 0 0,.slice none 0 0] 226)=W0:=⟨_,rfl⟩;have hb0:Below w.heap.size w W0:=by rw[<-hW0];exact(((Below.refl _ _).alloc (zvJ _) _).alloc (by simp) _).alloc (by simp;omega) _
 have x4:W0.heap[w.heap.size]?=some (.cells #[.bool b,.slice (some ⟨ga,0,none⟩) nw nw,.slice (some ⟨gl,0,none⟩) nw nw] 226 (0,0)):=by rw[<-hW0];exact zak (zak (zvZ _ _))
 have x5:W0.heap[w.heap.size+1]?=some (.cells #[.bool c,.slice (some ⟨ha,0,none⟩) nw nw,.slice (some ⟨hl,0,none⟩) nw nw] 226 (0,0)):=by
  rw[<-hW0];refine zak ?_;have:=zvZ (w.alloc (.cells #[.bool b,.slice (some ⟨ga,0,none⟩) nw nw,.slice (some ⟨gl,0,none⟩) nw nw] 226)) (.cells #[.bool c,.slice (some ⟨ha,0,none⟩) nw nw,.slice (some ⟨hl,0,none⟩) nw nw] 226)
  simpa using this
 have x6:W0.heap[w.heap.size+1+1]?=some (.cells #[.bool false,.slice none 0 0,.slice none 0 0] 226 (0,0)):=by
  rw[<-hW0];have:=zvZ ((w.alloc (.cells #[.bool b,.slice (some ⟨ga,0,none⟩) nw nw,.slice (some ⟨gl,0,none⟩) nw nw] 226)).alloc (.cells #[.bool c,.slice (some ⟨ha,0,none⟩) nw nw,.slice (some ⟨hl,0,none⟩) nw nw] 226)) (.cells #[.bool false,.slice none 0 0,.slice none 0 0] 226)
  simpa using this
 have l1:=h1.fi.glt;have l2:=h1.la.glt;have l3:=h2.fi.glt;have l4:=h2.la.glt;have hfl:∀p,p<n->fr p<w.heap.size:=fun p hp=>(h.fol.rows p hp).glt
 have hsz:W0.heap.size=w.heap.size+1+1+1:=by rw[<-hW0];simp
 have hpw:=zbK h.bru;have y:=h.below hb0;have y1:=h1.below hb0;have y2:=h2.below hb0;have hlk:=zmN n nw bt gl nw ha nw sv fv fr F L A' W0 y y1.la y2.fi e2 e3 hm;rw[hF2] at hlk;clear hF2;have T0:zam (fun k=>k=ga\/k=hl\/∃p,p<n/\k=fr p) w W0:=zam.of_below hb0;clear hb0;obtain⟨a0,a1,a2,-,-,-⟩:=zaf x4;obtain⟨b0,b1,b2,-,-,-⟩:=zaf x5
 go_enter Tryz.func187,Tryz.ntmps187
 go_wp2_with fail
 clear a0 a1 a2 b0 b1 b2 hW0;refine hlk.mono ?_;rintro e w1 ⟨rfl,q,t1⟩;have hn:∀k,w.heap.size<=k->¬∃p,p<n/\k=fr p:=fun k hk ⟨p,hp,e⟩=>by have:=hfl p hp;omega
 have u4:=(t1.same (w.heap.size) (by omega) (hn _ (by omega))).trans x4;have u5:=(t1.same (w.heap.size+1) (by omega) (hn _ (by omega))).trans x5;have u6:=(t1.same (w.heap.size+1+1) (by omega) (hn _ (by omega))).trans x6;have z1:=y1.fi.touch t1 (fun⟨p,hp,e⟩=>e1 p hp e.symm);have z2:=y1.la.touch t1 (fun⟨p,hp,e⟩=>e2 p hp e.symm);have z3:=y2.fi.touch t1 (fun⟨p,hp,e⟩=>e3 p hp e.symm);have z4:=y2.la.touch t1 (fun⟨p,hp,e⟩=>e4 p hp e.symm);have T1:=T0.trans (t1.mono (fun k _ hk=>.inr (.inr hk)));have s1:=t1.size;have hga:=h1.ne;have hha:=h2.ne;clear hlk x4 x5 x6 y y1 y2 T0 t1 h h1 h2;have hS:SqS w w1 n nw bt ga gl ha hl b c sv fv fr F2 A L A' L':=⟨u4,u5,u6,z1,z2,z3,z4,q,T1⟩;clear u4 u5 u6 z1 z2 z3 z4 q T1;have hfin:∀(W:World) (A2 L2:Nat->Nat),SqS w W n nw bt ga gl ha hl b c sv fv fr F2 A2 L A' L2->∃c0 c1 c2,W.cell? ⟨w.heap.size,0,none⟩=some (.bool b)/\W.cell? ⟨w.heap.size,1,none⟩=some (.slice (some ⟨ga,0,none⟩) nw nw)/\W.cell? ⟨w.heap.size+1,0,none⟩=some (.bool c)/\W.cell? ⟨w.heap.size+1,2,none⟩=some (.slice (some ⟨hl,0,none⟩) nw nw)/\W.cell? ⟨w.heap.size,2,none⟩=some (.slice (some ⟨gl,0,none⟩) nw nw)/\W.cell? ⟨w.heap.size+1,1,none⟩=some (.slice (some ⟨ha,0,none⟩) nw nw)/\W.cell? ⟨w.heap.size+1+1,0,none⟩=some c0/\W.cell? ⟨w.heap.size+1+1,1,none⟩=some c1/\W.cell? ⟨w.heap.size+1+1,2,none⟩=some c2/\W.frozen? ⟨w.heap.size+1+1,0,none⟩=false/\W.frozen? ⟨w.heap.size+1+1,1,none⟩=false/\W.frozen? ⟨w.heap.size+1+1,2,none⟩=false:=fun W A2 L2 hq=>by
  obtain⟨a0,a1,a2,-,-,-⟩:=zaf hq.r4;obtain⟨b0,b1,b2,-,-,-⟩:=zaf hq.r5;obtain⟨k0,k1,k2,f0,f1,f2⟩:=zaf hq.r6;exact⟨_,_,_,a0,a1,b0,b2,a2,b1,k0,k1,k2,f0,f1,f2⟩
 cases b<;>cases c
 ·obtain⟨p0,p1,p2,a0,a1,b0,b2,a2,b1,k0,k1,k2,f0,f1,f2⟩:=hfin _ _ _ hS;go_wp2;refine zvV (v:=.agg #[.bool false,.slice (some ⟨ga,0,none⟩) nw nw,.slice (some ⟨hl,0,none⟩) nw nw]) (by simp[results,Tryz.results187,go_sem,k0,k1,k2]) rfl ?_;exact hS.done l1 l4 d2 _ _ _
 ·obtain⟨p0,p1,p2,a0,a1,b0,b2,a2,b1,k0,k1,k2,f0,f1,f2⟩:=hfin _ _ _ hS;have hj:=zdn nw hl gl nw nw L' L w1 hS.lb hS.la d4.symm hnw
  go_wp2_with fail
  refine hj.mono ?_;rintro e w2 ⟨rfl,hp2,hg2⟩;have hS2:=hS.join (A2:=A) hg2 l1 l4 (.inr rfl) d4.symm hha.symm e4 (hS.fa.grown hg2 (by simpa using d2)) hp2;clear a0 a1 b0 b2 a2 b1 k0 k1 k2 f0 f1 f2;obtain⟨p0,p1,p2,a0,a1,b0,b2,a2,b1,k0,k1,k2,f0,f1,f2⟩:=hfin _ _ _ hS2;go_wp2;refine zvV (v:=.agg #[.bool false,.slice (some ⟨ga,0,none⟩) nw nw,.slice (some ⟨hl,0,none⟩) nw nw]) (by simp[results,Tryz.results187,go_sem,k0,k1,k2]) rfl ?_;exact hS2.done l1 l4 d2 _ _ _
 ·obtain⟨p0,p1,p2,a0,a1,b0,b2,a2,b1,k0,k1,k2,f0,f1,f2⟩:=hfin _ _ _ hS;have hj:=zdn nw ga ha nw nw A A' w1 hS.fa hS.fb d1 hnw
  go_wp2_with fail
  refine hj.mono ?_;rintro e w2 ⟨rfl,hp2,hg2⟩;have hS2:=hS.join (L2:=L') hg2 l1 l4 (.inl rfl) hga d1 e1 hp2 (hS.lb.grown hg2 (by simpa using d2.symm));clear a0 a1 b0 b2 a2 b1 k0 k1 k2 f0 f1 f2;obtain⟨p0,p1,p2,a0,a1,b0,b2,a2,b1,k0,k1,k2,f0,f1,f2⟩:=hfin _ _ _ hS2;go_wp2;refine zvV (v:=.agg #[.bool false,.slice (some ⟨ga,0,none⟩) nw nw,.slice (some ⟨hl,0,none⟩) nw nw]) (by simp[results,Tryz.results187,go_sem,k0,k1,k2]) rfl ?_;exact hS2.done l1 l4 d2 _ _ _
 ·obtain⟨p0,p1,p2,a0,a1,b0,b2,a2,b1,k0,k1,k2,f0,f1,f2⟩:=hfin _ _ _ hS;have hj:=zdn nw ga ha nw nw A A' w1 hS.fa hS.fb d1 hnw
  go_wp2_with fail
  refine hj.mono ?_;rintro e w2 ⟨rfl,hp2,hg2⟩;have hS2:=hS.join (L2:=L') hg2 l1 l4 (.inl rfl) hga d1 e1 hp2 (hS.lb.grown hg2 (by simpa using d2.symm));clear a0 a1 b0 b2 a2 b1 k0 k1 k2 f0 f1 f2;obtain⟨p0,p1,p2,a0,a1,b0,b2,a2,b1,k0,k1,k2,f0,f1,f2⟩:=hfin _ _ _ hS2;have hj2:=zdn nw hl gl nw nw L' L w2 hS2.lb hS2.la d4.symm hnw
  go_wp2_with fail
  refine hj2.mono ?_;rintro e w3 ⟨rfl,hp3,hg3⟩;have hS3:=hS2.join (A2:=orT A A') hg3 l1 l4 (.inr rfl) d4.symm hha.symm e4 (hS2.fa.grown hg3 (by simpa using d2)) hp3;clear a0 a1 b0 b2 a2 b1 k0 k1 k2 f0 f1 f2;obtain⟨p0,p1,p2,a0,a1,b0,b2,a2,b1,k0,k1,k2,f0,f1,f2⟩:=hfin _ _ _ hS3;go_wp2;refine zvV (v:=.agg #[.bool true,.slice (some ⟨ga,0,none⟩) nw nw,.slice (some ⟨hl,0,none⟩) nw nw]) (by simp[results,Tryz.results187,go_sem,k0,k1,k2]) rfl ?_;exact hS3.done l1 l4 d2 _ _ _
end Go.Proofs.YtdimhpfiieepiaaGreatDoor
