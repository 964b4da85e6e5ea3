import Derived.Test.YthddplbodacjgaaGreatDoorC16
import Derived.Deep.AppendLies
import Derived.Deep.RegionLaw
namespace Go.Proofs.YthddplbodacjgaaGreatDoor
set_option maxHeartbeats 4000000
set_option maxRecDepth 100000
open Go.RowKit
section
attribute [local go_sem ↓] Go.wp_at_zero Go.wp_at_succ
theorem zm8{lo:Nat}(cv nv tv ev lv:Value)(d:DfaD)(l:List Nat)(w:World)(hs:zbU lo w cv nv tv ev d)(hf:zaE d)(hl:zbx lo w lv (zav l))(hR:RchD d l):
  Calls Tryz.prog 43 #[.agg #[cv,.int .i64 d.width,nv,tv,ev],lv] w (ApR w d l):=by
 have hmix:Tryz.prog.follows .mixedOrders=true:=by kernel_rfl
 obtain⟨i0,hi,hz0,hz1,hz2⟩:=info_parts Tryz.infoInt;obtain⟨hw,hw1,hw2⟩:=hf.wd;rw[hw];clear hw;have hs0:=hs;obtain⟨⟨ca,cc,rfl,cm,cx⟩,⟨na,nc,rfl,nm,nx⟩,⟨ta,tc,rfl,tm,tx⟩,⟨ea,ec,rfl,em,ex⟩⟩:=hs;obtain⟨la,lc,rfl,lm,lx⟩:=hl;rw[zag] at *;have hn1:=hf.n1;have hn2:=hf.n2;have hlen:=zb2 _ l hR.nd hR.lt;obtain⟨tb,to2,rfl,_,tl,tq⟩:=tx (by omega);obtain⟨eb,eo2,rfl,_,el,eq⟩:=ex (by have:=hf.fl;omega);obtain⟨lb,lo2,rfl,_,ll,lq⟩:=lx (by rw[zag];exact hR.pos);rw[zag] at lq;obtain⟨nb,no2,rfl,_,nl,nq⟩:=nx (by have:=hf.nidx (s:=0) (c:=0) (by omega) (by omega);omega);obtain⟨W0,hW0⟩:∃W0,w.alloc (.cells #[.slice ca d.classes.length cc,.int .i64 (wdN d:Int),.slice (some ⟨nb,no2,none⟩) d.next.length nc,.slice (some ⟨tb,to2,none⟩) d.tag.length tc,.slice (some ⟨eb,eo2,none⟩) d.fin.length ec] 26)=W0:=⟨_,rfl⟩;have hb0:Below w.heap.size w W0:=by rw[<-hW0];exact(Below.refl _ _).alloc (zuz _) _
 have x0:W0.heap[w.heap.size]?=some (.cells #[.slice ca d.classes.length cc,.int .i64 (wdN d:Int),.slice (some ⟨nb,no2,none⟩) d.next.length nc,.slice (some ⟨tb,to2,none⟩) d.tag.length tc,.slice (some ⟨eb,eo2,none⟩) d.fin.length ec] 26 (0,0)):=by rw[<-hW0];exact zuR _ _
 have hl0:w.heap.size<W0.heap.size:=(ztp.1 x0).1;obtain⟨q0,q1,q2,q3,q4⟩:=zaq x0
 go_enter Tryz.func43,Tryz.ntmps43
 go_wp2_with (refine wpList_make_full _ rfl _ _ 24 rfl W0.heap.size 3 i0 _ 1 Tryz.underlying24 hi hz0 hz1 _ _ _ _ d.tag.length rfl rfl rfl rfl (by rw[hz2];omega) (by unfold maxLen;omega) (zuz _) ?_;intro w1 hown hgrow)
 have hb1:Below W0.heap.size W0 w1:=(Below.refl _ _).grown hgrow (zuz _) (by intro k h;cases h);clear hgrow q0 q1 q2 q3 q4;rw[ze5] at hown
 go_loopw [30] (fun i wr=>∃k:Nat,k<=l.length/\i=.int .i64 k/\Below W0.heap.size W0 wr/\∃zs:List Nat,PlI l zs d.tag.length k/\wr.ownsRow W0.heap.size 3 1 (.slice (some ⟨W0.heap.size,0,none⟩) d.tag.length d.tag.length) d.tag.length (natL zs))
  (fun i _=>l.length-(intOf i).toNat)
 case atStart=>exact⟨0,zuL _,rfl,hb1,_,⟨by simp,fun j hj=>absurd hj (zuI _)⟩,hown⟩
 case round=>
  obtain⟨k,hk,rfl,hb,zs,hP,hown⟩:=hrel
  by_cases hlt:k<l.length
  ·have hbw:Below w.heap.size w wr:=hb0.trans (hb.mono hb0.size);have c0:=(hbw.cell (p:=⟨lb,lo2+k,none⟩) ll).trans (lq k hlt);rw[zbw] at c0;have hsl:l.getD k 0<d.tag.length:=hR.lt _ (by rw[ztO,ztT hlt];exact zt0 _);have HP:Hid _:=hP.next hR.nd hlt hsl;obtain⟨u0,d0⟩:=zbN hown (j:=l.getD k 0) (by omega);have f0:=hown.frozenAt (l.getD k 0);have hst:=(hown.stored (l.getD k 0) (.int .i64 (k:Int))).1;rw[ziH] at hst;generalize l.getD k 0=s0 at *;have hi0:(0:Int)<=(k:Int):=by omega
   have hi1:(k:Int)<(l.length:Int):=by omega
   have hi2:(s0:Int)<(d.tag.length:Int):=by omega
   go_wp2
   go_roundw
   case rel=>exact⟨k+1,by omega,by go_num,hb.setCell (by simp) _,_,HP.out,hst⟩
   case measure=>simp[intOf];omega
  ·have hkk:k=l.length:=by omega
   subst hkk;obtain⟨W1,hW1⟩:∃W1,W1=wr:=⟨_,rfl⟩;subst hW1;have hx:=(hb.block _ hl0).trans x0;obtain⟨q0,q1,q2,q3,q4⟩:=zaq hx;have hbw:Below w.heap.size w W1:=hb0.trans (hb.mono hb0.size);have hg1:=zcj hown;have hI0:(W1.alloc (.cells #[] 3)).ownsRow W1.heap.size 3 1 (.slice (some ⟨W1.heap.size,0,none⟩) 0 0) 0 []:=zcc W1 3;go_wp2;clear q0 q1 q2 q3 q4
   go_loopw [9,10] (fun v i wr=>∃(c g cap:Nat),c<=wdN d/\i=.int .i64 c/\v=.slice (some ⟨g,0,none⟩) (zbu d c).length cap/\Below W1.heap.size W1 wr/\wr.ownsRow W1.heap.size 3 1 (.slice (some ⟨g,0,none⟩) (zbu d c).length cap) (zbu d c).length (natL (zbu d c)))
    (fun _ i _=>wdN d-(intOf i).toNat)
   case atStart=>exact⟨0,_,_,zuL _,rfl,rfl,(Below.refl _ _).alloc (zuz _) _,hI0⟩
   case round=>
    obtain⟨c,g,cap,hc,rfl,rfl,hb2,hown2⟩:=hrel;have hx2:=(hb2.block _ (zuB hl0 hb.size)).trans hx;obtain⟨q0,q1,q2,q3,q4⟩:=zaq hx2
    by_cases hcl:c<wdN d
    ·have hbx:Below w.heap.size w wr:=hbw.trans (hb2.mono hbw.size);have hpl:=zdI _ d.classes c wr (hs0.classes.below hbx);have Hused:Hid (0<=plF d.classes c↔(c:Int)∈d.classes):=zlp;have Husucc:Hid _:=znO d c;have hul:=zkn d c;have hB:=hb2.size;generalize plF d.classes (c:Int)=pu at *;have hi3:(c:Int)<(wdN d:Int):=by omega
     by_cases hu:0<=pu
     ·go_wp2_with (first|(go_at_call 45;refine hpl.mono ?_;rintro e w' ⟨rfl,hw'⟩;subst w')|(refine zaO wr _ rfl rfl (.tmp 52) (.tmp 54) 24 rfl W1.heap.size 3 i0 (.int .i64 0) 8 Tryz.underlying24 hi hz0 hz1 hz2 rfl g cap (zbu d c).length (natL (zbu d c)) (.int .i64 (c:Int)) rfl hown2 rfl rfl (by omega) (by omega) hB ?_;intro g' cap' w5 hown5 hgrow5 hat))
      go_roundw
      case rel=>
       have e:zbu d (c+1)=zbu d c++[c]:=by rw[Husucc.out,zuV (Hused.out.1 (by omega))]
       refine⟨c+1,g',cap',by omega,by go_num,by rw[e];simp,hb2.grown hgrow5 hB (fun q hq=>by cases hq;exact(zaV hown2).1),?_⟩;rw[e,zjN]
       simpa using hown5
      case measure=>simp[intOf];omega
     ·go_wp2_with (go_at_call 45;refine hpl.mono ?_;rintro e w' ⟨rfl,hw'⟩;subst w')
      go_roundw
      case rel=>
       have e:zbu d (c+1)=zbu d c:=by rw[Husucc.out,zuU (fun k=>by have:=Hused.out.2 k;omega)]
       exact⟨c+1,g,cap,by omega,by go_num,by rw[e],hb2,by rw[e];exact hown2⟩
      case measure=>simp[intOf];omega
    ·have hcc:c=wdN d:=by omega
     subst hcc;obtain⟨W2,hW2⟩:∃W2,W2=wr:=⟨_,rfl⟩;subst hW2;have hbw2:Below w.heap.size w W2:=hbw.trans (hb2.mono hbw.size);have hO0:(W2.alloc (.cells #[] 49)).ownsRow W2.heap.size 49 1 (.slice (some ⟨W2.heap.size,0,none⟩) 0 0) 0 []:=zcc W2 49;have hM0:MatI W2.heap.size (W2.alloc (.cells #[] 49)) l.length 0 (.slice (some ⟨W2.heap.size,0,none⟩) 0 0) (fun _=>0) (ansM d l):=⟨hO0,fun x hx=>absurd hx (zuI _),fun x hx=>absurd hx (zuI _),fun x _ hx=>absurd hx (zuI _)⟩;obtain⟨iB,hjB,hyB0,hyB1,hyB2⟩:=info_parts Tryz.infoBoolM;obtain⟨iS,hjS,hyS0,hyS1,hyS2⟩:=info_parts Tryz.infoBoolsM;go_wp2;clear q0 q1 q2 q3 q4
     go_loopw [11,12] (fun v i wr=>∃(x g cap:Nat) (gr:Nat->Nat),v=.slice (some ⟨g,0,none⟩) x cap/\x<=l.length/\i=.int .i64 x/\Below W2.heap.size W2 wr/\MatI W2.heap.size wr l.length x (.slice (some ⟨g,0,none⟩) x cap) gr (ansM d l))
      (fun _ i _=>l.length-(intOf i).toNat)
     case atStart=>exact⟨0,_,_,_,rfl,zuL _,rfl,(Below.refl _ _).alloc (zuz _) _,hM0⟩
     case round=>
      obtain⟨x,g3,cap3,gr,rfl,hxl,rfl,hb3,hM⟩:=hrel
      by_cases hx3:x<l.length
      ·obtain⟨W3,hW3⟩:∃W3,W3=wr:=⟨_,rfl⟩;subst hW3;have hz3:=hb3.size
       go_wp2_with (refine wpList_make_full _ rfl _ _ 49 rfl W3.heap.size 4 iB _ 1 Tryz.underlying49 hjB hyB0 hyB1 _ _ _ _ l.length rfl rfl rfl rfl (by rw[hyB2];omega) (by unfold maxLen;omega) (zuz _) ?_;intro w4 hown4 hgrow4)
       have r4:=zo2 hown4;rw[zk4] at r4;have hb4:Below W3.heap.size W3 w4:=(Below.refl _ _).grown hgrow4 (zuz _) (by intro k h;cases h);have hb34:Below W2.heap.size W2 w4:=hb3.trans (hb4.mono hz3);have hw4:Below w.heap.size w w4:=hbw2.trans (hb34.mono hbw2.size);have hs4:=hb4.size;have hI4:w4.heap[W3.heap.size]?=some (.cells (zbV l.length (fun j=>decide (j<0)&&ansM d l x j)) 4 (0,0)):=by rw[r4];congr 3
       have x4:=(hb34.block _ (by have:=hb.size;have:=hb2.size;omega)).trans ((hb2.block _ (by have:=hb.size;omega)).trans hx);clear hown4 hgrow4 r4
       go_loopw [14] (fun i wr=>∃y:Nat,y<=l.length/\i=.int .i64 y/\w4.grownBy wr (some W3.heap.size)/\wr.heap[W3.heap.size]?=some (.cells (zbV l.length (fun j=>decide (j<y)&&ansM d l x j)) 4 (0,0)))
        (fun i _=>l.length-(intOf i).toNat)
       case atStart=>exact⟨0,zuL _,rfl,World.grownBy.refl _ _,hI4⟩
       case round=>
        obtain⟨y,hy,rfl,hg,hr⟩:=hrel;have hlw:w.heap.size<W3.heap.size:=by have:=hb.size;have:=hb2.size;omega
        have hgl:W3.heap.size<w4.heap.size:=(ztp.1 hI4).1;have hkc:∀b o:Nat,b<=w.heap.size->wr.cell? ⟨b,o,none⟩=w4.cell? ⟨b,o,none⟩:=fun b o h=>World.cell?_of_block (hg.block b (by omega) (by simp;omega))
        have hx5:=(hg.block _ (by omega) (by simp;omega)).trans x4
        by_cases hy3:y<l.length
        ·obtain⟨q0,q1,q2,q3,q4⟩:=zaq hx5;have cx0:=(hkc lb (lo2+x) (by omega)).trans ((hw4.cell (p:=⟨lb,lo2+x,none⟩) ll).trans (lq x hx3));have cy0:=(hkc lb (lo2+y) (by omega)).trans ((hw4.cell (p:=⟨lb,lo2+y,none⟩) ll).trans (lq y hy3));rw[zbw] at cx0 cy0;have hsx:l.getD x 0<d.tag.length:=hR.lt _ (by rw[ztO,ztT hx3];exact zt0 _);have hsy:l.getD y 0<d.tag.length:=hR.lt _ (by rw[ztO,ztT hy3];exact zt0 _);have hfl:=hf.fl;have tcx:=(hkc tb (to2+l.getD x 0) (by omega)).trans ((hw4.cell (p:=⟨tb,to2+l.getD x 0,none⟩) tl).trans (tq _ hsx));have tcy:=(hkc tb (to2+l.getD y 0) (by omega)).trans ((hw4.cell (p:=⟨tb,to2+l.getD y 0,none⟩) tl).trans (tq _ hsy));have fcx:=(hkc eb (eo2+l.getD x 0) (by omega)).trans ((hw4.cell (p:=⟨eb,eo2+l.getD x 0,none⟩) el).trans (eq _ (by omega)));have fcy:=(hkc eb (eo2+l.getD y 0) (by omega)).trans ((hw4.cell (p:=⟨eb,eo2+l.getD y 0,none⟩) el).trans (eq _ (by omega)));have HA:Hid (ansM d l x y=(!(d.tag.getD (l.getD x 0) 0==d.tag.getD (l.getD y 0) 0) || !(d.fin.getD (l.getD x 0) 0==d.fin.getD (l.getD y 0) 0))):=rfl;have rc:wr.cell? ⟨W3.heap.size,y,none⟩=some (.bool false):=by rw[zuO _ _ _ _ _ _ hr,zc9 _ _ hy3];simp
         have rf:=zuQ _ _ y _ _ hr;have rs:(wr.drew.cell? ⟨W3.heap.size,y,none⟩).isSome=true:=by show (wr.cell? ⟨W3.heap.size,y,none⟩).isSome=true;rw[rc];rfl
         have HN:Hid (∀b:Bool,b=ansM d l x y->(wr.setCell ⟨W3.heap.size,y,none⟩ (.bool b)).heap[W3.heap.size]?=some (.cells (zbV l.length (fun j=>decide (j<y+1)&&ansM d l x j)) 4 (0,0))):=fun b hbe=>by
          have:=zuT wr W3.heap.size y _ _ (.bool b) hr;rw[zgs] at this;rw[this,hbe]
          congr 3
          funext j
          by_cases e:j=y
          ·subst e;rw[zuV rfl];simp
          ·rw[zuU e]
           congr 1
           rw[decide_eq_decide];omega
         generalize d.tag.getD (l.getD x 0) 0=t1 at *;generalize d.tag.getD (l.getD y 0) 0=t2 at *;generalize d.fin.getD (l.getD x 0) 0=f1 at *;generalize d.fin.getD (l.getD y 0) 0=f2 at *;generalize l.getD x 0=sx at *;generalize l.getD y 0=sy at *;have hi5:(x:Int)<(l.length:Int):=by omega
         have hi6:(y:Int)<(l.length:Int):=by omega
         have hi7:(sx:Int)<(d.tag.length:Int):=by omega
         have hi8:(sy:Int)<(d.tag.length:Int):=by omega
         have hi9:(sx:Int)<(d.fin.length:Int):=by omega
         have hi10:(sy:Int)<(d.fin.length:Int):=by omega
         clear hM hx5 x4 hx hkc hr hfl;have hst:∀b:Bool,b=ansM d l x y->∀nq:Nat,w4.grownBy ((wr.drewN nq).setCell ⟨W3.heap.size,y,none⟩ (.bool b)) (some W3.heap.size)/\((wr.drewN nq).setCell ⟨W3.heap.size,y,none⟩ (.bool b)).heap[W3.heap.size]?=some (.cells (zbV l.length (fun j=>decide (j<y+1)&&ansM d l x j)) 4 (0,0)):=fun b hb nq=>⟨hg.trans (zm2 wr W3.heap.size y nq (.bool b)),HN.out b hb⟩
         have HS:Hid _:=hst;clear hst
         by_cases e1:t1=t2
         ·have hne:(t1 != t2)=false:=by simp[e1]
          have hnd:decide (t1=t2)=true:=by simp[e1]
          by_cases e2:f1=f2
          ·have hnf:(f1 != f2)=false:=by simp[e2]
           go_wp2;refine zcy 39 hmix (by kernel_rfl) rfl rfl rfl ?_;intro os hos;simp only[zus,zuu] at hos;subst hos
           repeat (go_big_quiet_step (fail))
           refine wpQuiet_nil ?_;intro w' hw' K hK;obtain⟨nq,rfl⟩:=hw'
           first|go_big_move|go_big_op
           refine hK _ _ ?_;go_wp2
           go_roundw
           case rel=>
            obtain⟨k1,k2⟩:=HS.out false (by rw[HA.out];simp[e1,e2]) nq;exact⟨y+1,by omega,by go_num,k1,k2⟩
           case measure=>simp[intOf];omega
          ·have hnf:(f1 != f2)=true:=by simp[e2]
           go_wp2;refine zcy 39 hmix (by kernel_rfl) rfl rfl rfl ?_;intro os hos;simp only[zus,zuu] at hos;subst hos
           repeat (go_big_quiet_step (fail))
           refine wpQuiet_nil ?_;intro w' hw' K hK;obtain⟨nq,rfl⟩:=hw'
           first|go_big_move|go_big_op
           refine hK _ _ ?_;go_wp2
           go_roundw
           case rel=>
            obtain⟨k1,k2⟩:=HS.out true (by rw[HA.out];simp[e2]) nq;exact⟨y+1,by omega,by go_num,k1,k2⟩
           case measure=>simp[intOf];omega
         ·have hne:(t1 != t2)=true:=by simp[e1]
          go_wp2;refine zcy 39 hmix (by kernel_rfl) rfl rfl rfl ?_;intro os hos;simp only[zus,zuu] at hos;subst hos
          repeat (go_big_quiet_step (fail))
          refine wpQuiet_nil ?_;intro w' hw' K hK;obtain⟨nq,rfl⟩:=hw'
          first|go_big_move|go_big_op
          refine hK _ _ ?_;go_wp2
          go_roundw
          case rel=>
           obtain⟨k1,k2⟩:=HS.out true (by rw[HA.out];simp[e1]) nq;exact⟨y+1,by omega,by go_num,k1,k2⟩
          case measure=>simp[intOf];omega
        ·have hyy:y=l.length:=by omega
         subst hyy;have hr':wr.heap[W3.heap.size]?=some (.cells (zbV l.length (ansM d l x)) 4 (0,0)):=by
          rw[hr,zkF (g:=ansM d l x) (fun j hj=>by simp[hj])]
         have hbr:Below W3.heap.size W3 wr:=hb4.grown hg hs4 (fun q hq=>by cases hq;exact zuz _);have hM':=hM.below hbr;have hB3:W2.heap.size<=wr.heap.size:=zuA hz3 hbr.size;have HF:Hid (∀j,j<x->gr j≠W3.heap.size):=fun j hj=>Nat.ne_of_lt (ztp.1 (hM.rows j hj)).1
         clear hr hg hI4 x4 hkc hx5 hM
         go_wp2_with (refine zaO wr _ rfl rfl (.tmp 108) (.tmp 110) 50 rfl W2.heap.size 49 iS (.slice none 0 0) 24 Tryz.underlying50 hjS hyS0 hyS1 hyS2 rfl g3 cap3 x (slcB gr l.length x) (.slice (some ⟨W3.heap.size,0,none⟩) l.length l.length) rfl hM'.out rfl rfl (by omega) (by omega) hB3 ?_;intro g' cap' w5 hown5 hgrow5 hat)
         go_roundw
         case rel=>
          have hm5:=hM'.more hr' hz3 HF.out hgrow5 hown5;exact⟨x+1,g',cap',_,rfl,by omega,by go_num,(hb3.trans (hbr.mono hz3)).grown hgrow5 hB3 (fun q hq=>by cases hq;exact(zaV hM'.out).1),hm5⟩
         case measure=>simp[intOf];omega
      ·have hxx:x=l.length:=by omega
       subst hxx;have hw2s:=hbw2.size;have hB0:w.heap.size<=W2.heap.size:=hbw2.size;have HC:Hid (∀W,Below W2.heap.size W2 W->W.heap[w.heap.size]?=some (.cells #[.slice ca d.classes.length cc,.int .i64 (wdN d:Int),.slice (some ⟨nb,no2,none⟩) d.next.length nc,.slice (some ⟨tb,to2,none⟩) d.tag.length tc,.slice (some ⟨eb,eo2,none⟩) d.fin.length ec] 26 (0,0))/\
         (∀j,j<l.length->W.cell? ⟨lb,lo2+j,none⟩=some (.int .i64 ((l.getD j 0:Nat):Int)))/\
         (∀s c,s<d.tag.length->c<wdN d->W.cell? ⟨nb,no2+(s*wdN d+c),none⟩=some (.int .i64 ((nxN d s c:Nat):Int)))/\
         (∀j,j<d.tag.length->W.cell? ⟨W0.heap.size,j,none⟩=some (.int .i64 ((zs.getD j 0:Nat):Int)))/\
         (∀i,i<(zbu d (wdN d)).length->W.cell? ⟨g,i,none⟩=some (.int .i64 (((zbu d (wdN d)).getD i 0:Nat):Int)))):=fun W hW=>by
        have hWw:Below w.heap.size w W:=hbw2.trans (hW.mono hB0);refine⟨(hW.block _ (by have:=hb.size;have:=hb2.size;omega)).trans ((hb2.block _ (by have:=hb.size;omega)).trans hx),fun j hj=>?_,fun s c hs hc=>?_,fun j hj=>?_,fun i hi=>?_⟩
        ·rw[hWw.cell (p:=⟨lb,lo2+j,none⟩) ll,lq j hj,zbw]
        ·rw[hWw.cell (p:=⟨nb,no2+(s*wdN d+c),none⟩) nl,nq _ (hf.nidx hs hc),(hf.nx hs hc).1]
        ·rw[hW.cell (p:=⟨W0.heap.size,j,none⟩) (by have:=hb2.size;show W0.heap.size<_;omega),hb2.cell (p:=⟨W0.heap.size,j,none⟩) hg1,hown.cellAt j (by omega),zeB _ (by rw[hP.1];exact hj)]
        ·rw[hW.cell (p:=⟨g,i,none⟩) (zcj hown2),hown2.cellAt i (by omega),zeB _ hi]
       have HR:Hid (RchD d l):=hR;have HP:Hid (PlI l zs d.tag.length l.length):=hP;have HF:Hid (zaE d):=hf;have HBW:Hid (Below w.heap.size w W2):=hbw2;have HM:Hid (MatI W2.heap.size wr l.length l.length (.slice (some ⟨g3,0,none⟩) l.length cap3) gr (ansM d l)):=hM;have hpos:=hR.pos;have hul:=zkn d (wdN d);have hMb:∀m':Nat->Nat->Bool,∀W,MatI W2.heap.size W l.length l.length (.slice (some ⟨g3,0,none⟩) l.length cap3) gr m'->W2.heap.size<=W.heap.size:=fun m' W h=>Nat.le_of_lt (Nat.lt_of_le_of_lt (zaV h.out).1 (zaV h.out).2.1)
       have Hmb:Hid _:=hMb;clear hM hR hP hf hown hown2 hbw hbw2 hb0 hb1 hb hb2 hx x0 cx nx tx ex lx lq ll nq nl tq tl eq el hs0 hM0 hO0 hjB hyB0 hyB1 hyB2 hjS hyS0 hyS1 hyS2 hI0 hz0 hz1 hz2 hi hMb;go_wp2
       go_loopw [15] (fun gv wr=>∃(b:Bool) (m:Nat->Nat->Bool),gv=.bool b/\Below W2.heap.size W2 wr/\MatI W2.heap.size wr l.length l.length (.slice (some ⟨g3,0,none⟩) l.length cap3) gr m/\Hid (ApI d l m/\(b=false->∀x y,x<l.length->y<l.length->(m x y=false↔zbc (stN d) (anN d) (l.getD x 0) (l.getD y 0)))))
        (fun gv wr=>2*zsw W2.heap.size l.length (.slice (some ⟨g3,0,none⟩) l.length cap3) gr wr+bitV gv)
       case atStart=>exact⟨true,_,rfl,hb3,HM.out,zmI d l,fun e=>by cases e⟩
       case round=>
        clear HM hb3;obtain⟨b,m0,rfl,hb5,hM5,HA5⟩:=hrel;obtain⟨W5,hW5⟩:∃W5,W5=wr:=⟨_,rfl⟩;subst hW5;have HM5:Hid _:=hM5;clear hM5;cases b
        ·go_wp2;refine zuN (v:=.slice (some ⟨g3,0,none⟩) l.length cap3) (by simp[results,Tryz.results43,go_sem]) rfl ⟨_,gr,m0,W2.heap.size,rfl,hB0,HM5.out,HBW.out.trans (hb5.mono hB0),HA5.out.2 (by first|exact rfl|trivial)⟩
        ·go_wp2
         go_loopw [15,16] (fun gv i wr=>∃(b:Bool) (m:Nat->Nat->Bool) (x:Nat),gv=.bool b/\i=.int .i64 x/\x<=l.length/\Below W2.heap.size W2 wr/\MatI W2.heap.size wr l.length l.length (.slice (some ⟨g3,0,none⟩) l.length cap3) gr m/\Hid (zeH d l m0 b m (DonX l.length x 0)))
          (fun _ i _=>l.length-(intOf i).toNat)
         case atStart=>exact⟨false,_,0,rfl,rfl,zuL _,hb5,HM5.out,zeH.start HA5.out.1 (fun x y h=>by unfold DonX at h;omega)⟩
         case round=>
          clear hb5;obtain⟨b,m,x,rfl,rfl,hxl,hb6,hM6,HS6⟩:=hrel;obtain⟨W6,hW6⟩:∃W6,W6=wr:=⟨_,rfl⟩;subst hW6;have HM6:Hid _:=hM6;clear hM6
          by_cases hx6:x<l.length
          ·have hi6:(x:Int)<(l.length:Int):=by omega
           go_wp2
           go_loopw [15,17] (fun gv i wr=>∃(b:Bool) (m:Nat->Nat->Bool) (y:Nat),gv=.bool b/\i=.int .i64 y/\y<=l.length/\Below W2.heap.size W2 wr/\MatI W2.heap.size wr l.length l.length (.slice (some ⟨g3,0,none⟩) l.length cap3) gr m/\Hid (zeH d l m0 b m (DonX l.length x y)))
            (fun _ i _=>l.length-(intOf i).toNat)
           case atStart=>exact⟨b,m,0,rfl,rfl,zuL _,hb6,HM6.out,HS6⟩
           case round=>
            clear hb6 HS6 HM6;obtain⟨b,m,y,rfl,rfl,hyl,hb7,hM7,HS7⟩:=hrel;obtain⟨W7,hW7⟩:∃W7,W7=wr:=⟨_,rfl⟩;subst hW7
            by_cases hy7:y<l.length
            ·have hi7:(y:Int)<(l.length:Int):=by omega
             have o7:=hM7.out1 hx6;have c7:=(hM7.cell hx6 hy7).1;have HM7:Hid _:=hM7;clear hM7;cases hmb:m x y
             ·rw[hmb] at c7;go_wp2
              go_loopw [15,132] (fun gv i wr=>∃(b:Bool) (m:Nat->Nat->Bool) (k:Nat),gv=.bool b/\i=.int .i64 k/\k<=(zbu d (wdN d)).length/\Below W2.heap.size W2 wr/\MatI W2.heap.size wr l.length l.length (.slice (some ⟨g3,0,none⟩) l.length cap3) gr m/\Hid (zeH d l m0 b m (DonX l.length x y)/\(b=false->m0 x y=false/\∀j,j<k->clo1 d l m0 x y ((zbu d (wdN d)).getD j 0))))
               (fun _ i _=>(zbu d (wdN d)).length-(intOf i).toNat)
              case atStart=>exact⟨b,m,0,rfl,rfl,zuL _,hb7,HM7.out,HS7.out,fun e=>⟨by rw[<-(HS7.out.same e).1];exact hmb,fun j hj=>absurd hj (zuI _)⟩⟩
              case round=>
               clear c7 o7 hb7 HS7 HM7 hmb;obtain⟨b,m,k,rfl,rfl,hkl,hb8,hM8,HS8⟩:=hrel
               by_cases hk8:k<(zbu d (wdN d)).length
               ·obtain⟨hbox,hL,hN,hZ,hU⟩:=HC.out wr hb8;obtain⟨q0,q1,q2,q3,q4⟩:=zaq hbox;have cu:=hU k hk8;have hcm:=za3 hk8;have hcw:=(zbE.1 hcm).1;obtain⟨px,ch,hpx,epx,hch,ech,pzx⟩:=zpW HF.out HR.out HP.out hx6 hcm;obtain⟨py,ch',hpy,epy,_,_,pzy⟩:=zpW HF.out HR.out HP.out hy7 hcm;have hsx:=HR.out.lt _ (za3 hx6);have hsy:=HR.out.lt _ (za3 hy7);have cx0:=hL x hx6;have cy0:=hL y hy7;have nx1:=hN _ _ hsx hcw;have ny1:=hN _ _ hsy hcw;have hxn:=(HF.out.nx hsx hcw).2;have hyn:=(HF.out.nx hsy hcw).2;have zx:=hZ _ hxn;have zy:=hZ _ hyn;rw[pzx] at zx;rw[pzy] at zy;obtain⟨P1,eP1,p11,p12,p13,p14,p15⟩:=zjA (s:=l.getD x 0) (by omega) hw2 (HF.out.nidx hsx hcw);obtain⟨P2,eP2,p21,p22,p23,p24,p25⟩:=zjA (s:=l.getD y 0) (by omega) hw2 (HF.out.nidx hsy hcw);rw[<-p15] at nx1;rw[<-p25] at ny1;have o1:=hM8.out1 hpx;have c1:=(hM8.cell hpx hpy).1;have o2:=hM8.out1 hx6;have c2:=(hM8.cell hx6 hy7).1;have f2:=(hM8.cell hx6 hy7).2;have HNO:Hid (m px py=false->(b=false->m0 x y=false/\∀j,j<k+1->clo1 d l m0 x y ((zbu d (wdN d)).getD j 0))):=fun e hb=>by
                 obtain⟨k1,k2⟩:=HS8.out.2 hb;refine⟨k1,fun j hj=>?_⟩
                 by_cases ej:j=k
                 ·subst ej;exact zr5 HR.out hpx hpy epx epy (by rw[<-(HS8.out.1.same hb).1];exact e)
                 ·exact k2 j (by omega)
                have HYES:Hid (m px py=true->zeH d l m0 true (putM m x y) (DonX l.length x y)):=fun e=>HS8.out.1.put hx6 hy7 (fun hb=>(HS8.out.2 hb).1) hpx hpy (by rw[epx];unfold stN;rw[ech]) (by rw[epy];unfold stN;rw[ech]) hch e
                have HPUT:Hid (∀W,MatI W2.heap.size W l.length l.length (.slice (some ⟨g3,0,none⟩) l.length cap3) gr m->MatI W2.heap.size (W.setCell ⟨gr x,y,none⟩ (.bool true)) l.length l.length (.slice (some ⟨g3,0,none⟩) l.length cap3) gr (putM m x y)):=fun W h=>h.put hx6 y
                have hgx:=hM8.base x hx6;have hi1:(px:Int)<(l.length:Int):=by omega
                have hi2:(py:Int)<(l.length:Int):=by omega
                have hi3:(k:Int)<((zbu d (wdN d)).length:Int):=by omega
                have hi4:((nxN d (l.getD x 0) ((zbu d (wdN d)).getD k 0):Nat):Int)<(d.tag.length:Int):=by omega
                have hi5:((nxN d (l.getD y 0) ((zbu d (wdN d)).getD k 0):Nat):Int)<(d.tag.length:Int):=by omega
                have HM8:Hid _:=hM8;have hz8:=hb8.size;clear hM8 hbox hL hN hZ hU hcm pzx pzy epx epy p15 p25 hxn hyn;generalize nxN d (l.getD x 0) ((zbu d (wdN d)).getD k 0)=tsx at *;generalize nxN d (l.getD y 0) ((zbu d (wdN d)).getD k 0)=tsy at *;generalize l.getD x 0=sx at *;generalize l.getD y 0=sy at *;generalize hcc:(zbu d (wdN d)).getD k 0=cc at *;clear hcc;generalize hmv:m px py=mv at *;clear hmv;cases mv
                ·go_wp2
                 go_quiet (fail)
                 obtain⟨n1,hn1⟩:∃n1,n1=nq:=⟨_,rfl⟩;subst hn1;go_wp2
                 go_quiet (fail)
                 go_wp2
                 go_roundw
                 case rel=>exact⟨b,m,k+1,rfl,by go_num,by omega,below_drewN hb8 _,HM8.out.below (below_drewN (Below.refl _ _) _),HS8.out.1,HNO.out (by first|exact rfl|trivial)⟩
                 case measure=>simp[intOf];omega
                ·go_wp2
                 go_quiet (fail)
                 obtain⟨n1,hn1⟩:∃n1,n1=nq:=⟨_,rfl⟩;subst hn1;go_wp2
                 go_quiet (fail)
                 go_wp2
                 go_roundw
                 case rel=>exact⟨true,putM m x y,k+1,rfl,by go_num,by omega,(below_drewN hb8 _).setCell hgx _,HPUT.out _ (HM8.out.below (below_drewN (Below.refl _ _) _)),HYES.out (by first|exact rfl|trivial),fun e=>by cases e⟩
                 case measure=>simp[intOf];omega
               ·have hkk:k=(zbu d (wdN d)).length:=by omega
                subst hkk;go_wp2
                go_roundw
                case rel=>
                 refine⟨b,m,y+1,rfl,by go_num,by omega,hb8,hM8,HS8.out.1.done fun a c h=>?_⟩
                 by_cases e:a=x/\c=y
                 ·obtain⟨rfl,rfl⟩:=e;exact .inr fun e h0 c hc=>by
                   obtain⟨j,hj,ej⟩:=zfP hc;rw[<-ej];exact(HS8.out.2 e).2 j hj
                 ·exact .inl (by unfold DonX at *;omega)
                case measure=>simp[intOf];omega
             ·rw[hmb] at c7;go_wp2
              go_roundw
              case rel=>
               refine⟨b,m,y+1,rfl,by go_num,by omega,hb7,HM7.out,HS7.out.done fun a c h=>?_⟩
               by_cases e:a=x/\c=y
               ·obtain⟨rfl,rfl⟩:=e;exact .inr fun e h0=>by rw[<-(HS7.out.same e).1,hmb] at h0;cases h0
               ·exact .inl (by unfold DonX at *;omega)
              case measure=>simp[intOf];omega
            ·have hyy:y=l.length:=by omega
             subst hyy;go_wp2
             go_roundw
             case rel=>exact⟨b,m,x+1,rfl,by go_num,by omega,hb7,hM7,HS7.out.done fun a c h=>.inl (by unfold DonX at *;omega)⟩
             case measure=>simp[intOf];omega
          ·have hxx:x=l.length:=by omega
           subst hxx;go_wp2
           go_roundw
           case rel=>
            refine⟨b,m,rfl,hb6,HM6.out,HS6.out.ap,fun e=>?_⟩;subst e;exact fun x y hx hy=>zeH.end HF.out HR.out (HS6.out.done fun a c h=>.inl (by unfold DonX;omega)) hx hy
           case measure=>
            rw[zmw HM6.out,zmw HM5.out];cases b
            ·rw[(HS6.out.same rfl).1];simp[bitV]
            ·have:=HS6.out.grew rfl;simp[bitV];omega
end
section
variable {lo lo' k gt n B g cap:Nat}{w W5 W W':World}{v:Nat -> Value}{d:DfaD}{rv:Value}{ls:Nat -> List Int}{os:List Nat}
theorem zbx.low{v:Value}{xs:List Int}(h:zbx lo w v xs)(hl:lo'<=lo):zbx lo' w v xs:=by
 obtain⟨a,c,h1,h2,h3⟩:=h;exact⟨a,c,h1,h2,fun hx=>by obtain⟨b,o,e1,e2,e3⟩:=h3 hx;exact⟨b,o,e1,by omega,e3⟩⟩
theorem zbU.low{cv nv tv ev:Value}(h:zbU lo w cv nv tv ev d)(hl:lo'<=lo):zbU lo' w cv nv tv ev d:=⟨h.classes.low hl,h.next.low hl,h.tag.low hl,h.fin.low hl⟩
def rowD(width:Int)(v:Nat->Value):Array Value:=#[v 0,.int .i64 width,v 1,v 2,v 3]
def zbf:Array Value:=#[.slice none 0 0,.int .i64 0,.slice none 0 0,.slice none 0 0,.slice none 0 0]
def zlR(w:World)(width:Int)(l:Nat->List Int)(e:Ending)(w':World):Prop:=∃(gt:Nat) (v:Nat->Value),e=.returned (.agg (rowD width v))/\w.heap.size<=gt/\Fam gt 4 w' v l/\Below w.heap.size w w'
noncomputable def rwA (d:DfaD):Nat->Nat->Nat:=rowA (stN d) (anN d)
noncomputable def mnL (d:DfaD) (K:Nat):Nat->List Int
 |0=>(List.range 256).map fun c=>(clsF K (rwA d) c:Int)
 |1=>(List.range K).flatMap fun k=>(zah K (rwA d) 256).map fun h=>(rwA d k h:Int)
 |2=>(zat (stN d) (anN d) K 0).map fun s=>d.tag.getD s 0
 |_=>(zat (stN d) (anN d) K 0).map fun s=>d.fin.getD s 0
def MinP(w:World)(d:DfaD)(e:Ending)(w':World):Prop:=∃K,zef (stN d) (anN d) K/\(zat (stN d) (anN d) K 0).length=K/\zlR w (zah K (rwA d) 256).length (mnL d K) e w'
theorem zff(hf:zaE d){s c:Nat}(hs:s<d.tag.length)(hc:c<256):zlG d (s:Int) c=(stN d s c:Int):=by
 have h1:=hf.clc hc;have h2:=hf.nx hs h1.2;have hw:=hf.wd.1;unfold zlG zrG zhx;rw[h1.1,hw];have e:((s:Int)*(wdN d:Int)+(clN d c:Int)).toNat=s*wdN d+clN d c:=by
  have:(s:Int)*(wdN d:Int)+(clN d c:Int)=((s*wdN d+clN d c:Nat):Int):=by simp
  rw[this,ztB]
 rw[e];exact h2.1
theorem zqT(cv nv tv ev:Value)(d:DfaD)(s c t:Nat)(ci:Int)(hci:ci=c)(w:World)(hs:zbU lo w cv nv tv ev d)(hf:zaE d)(h1:s<d.tag.length)(hc:c<256)(ht:stN d s c=t):
  Calls Tryz.prog 44 #[.agg #[cv,.int .i64 d.width,nv,tv,ev],.int .i64 (s:Int),.int .i64 ci] w fun e w'=>e=.returned (.int .i64 (t:Int))/\Below w.heap.size w w':=by
 subst hci;refine(zsk cv nv tv ev d (s:Int) c w hs hf (by omega) (by omega) hc).mono ?_;rintro e w' ⟨rfl,hb⟩;rw[zff hf h1 hc,ht];exact⟨rfl,hb⟩
noncomputable def rowP (d:DfaD) (x c:Nat):List Int:=(List.range c).map fun c=>(rwA d x c:Int)
theorem zfb(d:DfaD)(x c:Nat):(rowP d x c).length=c:=by simp[rowP]
theorem zj5(d:DfaD)(x c:Nat):rowP d x (c+1)=rowP d x c++[(rwA d x c:Int)]:=by simp[rowP,List.range_succ]
theorem zrh(d:DfaD)(x:Nat){c n:Nat}(h:c<n):(rowP d x n).getD c 0=(rwA d x c:Int):=by simp[rowP,List.getD,h]
def ziU(v:Nat->Value)(k:Nat):List Value:=(List.range k).map fun x=>v (x+1)
theorem znE(v:Nat->Value)(k:Nat):ziU v (k+1)=ziU v k++[v (k+1)]:=by simp[ziU,List.range_succ]
theorem zg9{v':Nat->Value}(h:∀x,x<k->v (x+1)=v' (x+1)):ziU v k=ziU v' k:=zua fun x hx=>h x (by simpa using hx)
structure OrS(d:DfaD)(W5:World)(gt:Nat)(W:World)(k:Nat)(rv:Value)(v:Nat->Value)(ls:Nat->List Int)(os:List Nat)(n:Nat):Prop where
 fam:Fam gt n W v ls
 l0:ls 0=zav os
 lk:∀x,x<k->ls (x+1)=rowP d x 256
 out:W.ownsRow (gt+1) 24 1 rv k (ziU v k)
 below:Below (gt+1) W5 W
 top:W5.heap.size=gt+1
theorem OrS.size(h:OrS d W5 gt W k rv v ls os n):gt+1<=W.heap.size:=by have:=h.below.size;rw[h.top] at this;exact this
theorem OrS.on(h:OrS d W5 gt W k rv v ls os n)(hb:Below W.heap.size W W'):OrS d W5 gt W' k rv v ls os n:=
 ⟨h.fam.below hb,h.l0,h.lk,zad h.out hb,h.below.trans (hb.mono h.size),h.top⟩
theorem zdL{l:Nat->List Int}(h:Fam gt n W v l){i:Nat}(hi:i<n)(hgr:W.grownBy W' (v i).ownBlock){B:Nat}{rv:Value}{k:Nat}{xs:List Value}(ho:W.ownsRow B 24 1 rv k xs):W'.ownsRow B 24 1 rv k xs:=
 za6 ho fun _ _ e=>h.others hi hgr (by decide) e
theorem OrS.new(h:OrS d W5 gt W k rv v ls os n)(hn:k<n):OrS d W5 gt (W.alloc (.cells #[] 3)) k rv (upd v n (.slice (some ⟨W.heap.size,0,none⟩) 0 0)) (updL ls n []) os (n+1):=by
 have hb:Below W.heap.size W (W.alloc (.cells #[] 3)):=(Below.refl _ _).alloc (zuz _) _;refine⟨h.fam.new h.size,by rw[zaf _ _ (by omega)];exact h.l0,fun x hx=>by rw[zaf _ _ (by omega)];exact h.lk x hx,?_,h.below.trans (hb.mono h.size),h.top⟩;rw[zg9 (v':=v) (fun x hx=>zaD _ _ (by omega))];exact zad h.out hb
theorem OrS.grow(h:OrS d W5 gt W k rv v ls os n){i:Nat}(hi:i<n)(hik:i=0\/k<i){u:Value}{ys:List Int}(hF:Fam gt n W' (upd v i u) (updL ls i ys))(hg:W.grownBy W' (v i).ownBlock){os':List Nat}(ho:updL ls i ys 0=zav os'):OrS d W5 gt W' k rv (upd v i u) (updL ls i ys) os' n:=by
 refine⟨hF,ho,fun x hx=>by rw[zaf _ _ (by omega)];exact h.lk x hx,?_,h.below.grown hg h.size (fun b hb=>(zaR (h.fam.own i hi) hb).1),h.top⟩;rw[zg9 (v':=v) (fun x hx=>zaD _ _ (by omega))];exact zdL h.fam hi hg h.out
theorem zbo{xs:List Value}(h:W.ownsRow B 24 1 (.slice (some ⟨g,0,none⟩) k cap) k xs):∃cur:Array Value,W.heap[g]?=some (.cells cur 24 (0,0)):=by
 rcases h.2 with ⟨h0,_⟩|⟨g',cap',cur,hv,_,hh,_⟩
 ·cases h0
 ·cases hv;exact⟨cur,hh⟩
theorem OrS.more{rv':Value}(h:OrS d W5 gt W k (.slice (some ⟨g,0,none⟩) k cap) v ls os (k+2))(hl:ls (k+1)=rowP d k 256)(hg:W.grownBy W' (some g))(ho:W'.ownsRow (gt+1) 24 1 rv' (k+1) (ziU v k++[v (k+1)])):OrS d W5 gt W' (k+1) rv' v ls os (k+2):=by
 obtain⟨cur,hc⟩:=zbo h.out;refine⟨h.fam.other hc (by decide) hg,h.l0,fun x hx=>?_,by rw[znE];exact ho,h.below.grown hg h.size (fun b hb=>by cases hb;exact(zaV h.out).1),h.top⟩
 by_cases e:x=k
 ·subst e;exact hl
 ·exact h.lk x (by omega)
theorem ziM{x:Int}(h:W.heap[g]?=some (.cells #[.int .i64 x] 3 (0,0)))(hB:B<=g):Owns B W (.slice (some ⟨g,0,none⟩) 1 1) [x]:=
 ⟨rfl,.inr ⟨g,1,_,rfl,hB,h,zuz _,by unfold maxLen;omega,rfl,rfl⟩⟩
theorem OrS.start{x:Nat}(ht:W5.heap.size=gt+1):OrS d W5 gt ((W5.alloc (.cells #[.int .i64 (x:Int)] 3)).alloc (.cells #[] 24)) 0 (.slice (some ⟨W5.heap.size+1,0,none⟩) 0 0) (fun _=>.slice (some ⟨W5.heap.size,0,none⟩) 1 1) (fun _=>[(x:Int)]) [x] 1:=by
 have hb1:Below W5.heap.size W5 (W5.alloc (.cells #[.int .i64 (x:Int)] 3)):=(Below.refl _ _).alloc (zuz _) _;have hb2:Below W5.heap.size W5 ((W5.alloc (.cells #[.int .i64 (x:Int)] 3)).alloc (.cells #[] 24)):=hb1.alloc hb1.size _;have h1:((W5.alloc (.cells #[.int .i64 (x:Int)] 3)).alloc (.cells #[] 24)).heap[W5.heap.size]?=some (.cells #[.int .i64 (x:Int)] 3 (0,0)):=
  (Below.heap_alloc _ _ _ (by simp)).trans (zuR W5 _)
 have h2:=zcc (W5.alloc (.cells #[.int .i64 (x:Int)] 3)) 24;refine⟨⟨fun i hi=>ziM h1 (by omega),fun i j hi hj hne=>by omega⟩,rfl,fun x hx=>by omega,?_,by rw[<-ht];exact hb2,ht⟩;have e:(W5.alloc (.cells #[.int .i64 (x:Int)] 3)).heap.size=W5.heap.size+1:=by simp
 rw[e] at h2;exact zcO h2 (by omega)
end
variable {W w W8 W':World}{gt n g gm k b:Nat}{v:Nat -> Value}{l ls:Nat -> List Int}{d:DfaD}{os:List Nat}
theorem Tryz.infoIntsD:(Tryz.prog.info? 24).map (fun i=>(i.zero,i.size,i.bytes))=some (some (.slice none 0 0),1,24):=by kernel_rfl
def appD(ats:Array TypeId)(ty:TypeId)(args:Array Value):Sem Value:=Builtin.append_ ats ty args
theorem zdU(ty:TypeId)(args:Array Value):Builtin.append_ #[24,24] ty args=appD #[24,24] ty args:=rfl
theorem zkB(S:Fam gt n W v l)(i:Nat)(hi:i<n)(xs:List Int)(hxs:l i=xs)(m:Nat)(hn:xs.length=m)(vi:Value)(hv:v i=vi)(y:Int)(hl:m<=2000000)(hB:gt+1<=W.heap.size)(ty:TypeId):
  ∃g cap W',(appD #[24,24] ty #[vi,.slice (some ⟨W.heap.size,0,none⟩) 1 1]).run Tryz.prog ((W.alloc (.cells #[.int .i64 y] 3)).drew)=.ok (.slice (some ⟨g,0,none⟩) (m+1) cap) W'/\Fam gt n W' (upd v i (.slice (some ⟨g,0,none⟩) (m+1) cap)) (updL l i (xs++[y]))/\W.grownBy W' (v i).ownBlock:=by
 subst hn;subst hxs;subst hv;obtain⟨i0,hi0,hz0,hz1,hz2⟩:=info_parts Tryz.infoInt;have hb:Below W.heap.size W ((W.alloc (.cells #[.int .i64 y] 3)).drew):=((Below.refl _ _).alloc (zuz _) _).drew;have own:((W.alloc (.cells #[.int .i64 y] 3)).drew).ownsRow (gt+1) 3 1 (v i) (l i).length ((l i).map intV):=(S.below hb).own i hi;have hsz:((W.alloc (.cells #[.int .i64 y] 3)).drew).heap.size=W.heap.size+1:=by simp
 obtain⟨g,cap,W',hr,own',grow',at',_⟩:=run_append_lies (P:=Tryz.prog) ((W.alloc (.cells #[.int .i64 y] 3)).drew) 24 ty (gt+1) 3 i0 _ 1 8 Tryz.underlying24 hi0 hz0 hz1 hz2 rfl (by omega) (v i) (l i).length ((l i).map intV) own ⟨W.heap.size,0,none⟩ 1 1 [.int .i64 y] rfl (ziK (ziT (zuR _ _))) (by intro u hu;simp at hu;subst hu;rfl) (by omega) (by unfold maxLen;omega) (by omega) (by omega) (W.heap.size+1) hsz;refine⟨g,cap,W',hr,Fam.append (S.below hb) hi own' grow' (at'.imp id (fun h=>by omega)),?_⟩;exact⟨grow'.os.trans hb.os,grow'.tape.trans hb.tape,grow'.output.trans hb.output,zuA hb.size grow'.size,fun k hk hne=>(grow'.block k (by have:=hb.size;omega) hne).trans (hb.block k hk)⟩
def offD(i:Nat):Nat:=if i=0 then 0 else i+1
theorem ziR(width:Int)(v:Nat->Value)(i:Nat)(hi:i<4)(u:Value):(rowD width v).setIfInBounds (offD i) u=rowD width (upd v i u):=by
 match i,hi with
 |0,_=>rfl
 |1,_=>rfl
 |2,_=>rfl
 |3,_=>rfl
theorem zpo(width:Int)(v:Nat->Value)(u:Value):rowD width (upd v 4 u)=rowD width v:=rfl
theorem zbT{width:Int}{t:TypeId}(h:w.heap[g]?=some (.cells (rowD width v) t (0,0))):w.cell? ⟨g,0,none⟩=some (v 0)/\w.cell? ⟨g,1,none⟩=some (.int .i64 width)/\w.cell? ⟨g,2,none⟩=some (v 1)/\w.cell? ⟨g,3,none⟩=some (v 2)/\w.cell? ⟨g,4,none⟩=some (v 3):=zaq h
structure HdS(W8:World)(gm:Nat)(W:World)(width:Int)(v:Nat->Value)(ls:Nat->List Int):Prop where
 fam:Fam gm 5 W v ls
 box:W.heap[gm]?=some (.cells (rowD width v) 26 (0,0))
 below:Below gm W8 W
 top:W8.heap.size=gm
theorem HdS.size{width:Int}(h:HdS W8 gm W width v ls):gm+1<=W.heap.size:=zae h.box
theorem HdS.on{width:Int}(h:HdS W8 gm W width v ls)(hb:Below W.heap.size W W'):HdS W8 gm W' width v ls:=
 ⟨h.fam.below hb,zab h.box hb,h.below.trans (hb.mono (zuA (Nat.le_succ _) h.size)),h.top⟩
theorem HdS.heads{width:Int}(h:HdS W8 gm W width v ls){u:Value}{ys:List Int}(hF:Fam gm 5 W' (upd v 4 u) (updL ls 4 ys))(hg:W.grownBy W' (v 4).ownBlock):HdS W8 gm W' width (upd v 4 u) (updL ls 4 ys):=
 ⟨hF,by rw[zpo];exact h.fam.others (i:=4) (by omega) hg (by decide) h.box,h.below.grown hg (zuA (Nat.le_succ _) h.size) (fun b hb=>by have:=(zaR (h.fam.own 4 (by omega)) hb).1;omega),h.top⟩
theorem HdS.field{width:Int}(h:HdS W8 gm W width v ls){i:Nat}(hi:i<4){u:Value}{ys:List Int}(hF:Fam gm 5 W' (upd v i u) (updL ls i ys))(hg:W.grownBy W' (v i).ownBlock):
  W'.heap[gm]?=some (.cells (rowD width v) 26 (0,0))/\HdS W8 gm (W'.setCell ⟨gm,offD i,none⟩ u) width (upd v i u) (updL ls i ys):=by
 have hbx:=h.fam.others (i:=i) (by omega) hg (by decide) h.box;refine⟨hbx,hF.set _ _,?_,(h.below.grown hg (zuA (Nat.le_succ _) h.size) (fun b hb=>by have:=(zaR (h.fam.own i (by omega)) hb).1;omega)).setCell (zuz _) _,h.top⟩;have:=zuT W' gm (offD i) _ _ u hbx;rw[ziR _ _ _ hi] at this;exact this
theorem HdS.fieldAt{width:Int}(h:HdS W8 gm W width v ls){i off:Nat}(hi:i<4)(ho:offD i=off){u:Value}{ys:List Int}(hF:Fam gm 5 W' (upd v i u) (updL ls i ys))(hg:W.grownBy W' (v i).ownBlock):
  W'.heap[gm]?=some (.cells (rowD width v) 26 (0,0))/\HdS W8 gm (W'.setCell ⟨gm,off,none⟩ u) width (upd v i u) (updL ls i ys):=by
 subst ho;exact h.field hi hF hg
theorem HdS.width{width:Int}(h:HdS W8 gm W width v ls)(n:Int):HdS W8 gm (W.setCell ⟨gm,1,none⟩ (.int .i64 n)) n v ls:=by
 refine⟨h.fam.set _ _,?_,h.below.setCell (zuz _) _,h.top⟩;have:=zuT W gm 1 _ _ (.int .i64 n) h.box;exact this
theorem HdS.start:HdS W8 W8.heap.size ((W8.alloc (.cells zbf 26)).alloc (.cells #[] 3)) 0 (upd (fun _=>.slice none 0 0) 4 (.slice (some ⟨W8.heap.size+1,0,none⟩) 0 0)) (updL (fun _=>[]) 4 []):=by
 have hb1:Below W8.heap.size W8 (W8.alloc (.cells zbf 26)):=(Below.refl _ _).alloc (zuz _) _;have e:(W8.alloc (.cells zbf 26)).heap.size=W8.heap.size+1:=by simp
 have hF:=Fam.new (Fam.nil W8.heap.size 4 (W8.alloc (.cells zbf 26))) (by omega);rw[e] at hF;refine⟨hF,?_,hb1.alloc hb1.size _,rfl⟩;exact(Below.heap_alloc _ _ _ (by simp)).trans (zuR W8 _)
theorem zqy{st:Nat->Nat->Nat}{an:Nat->Int×Int}(h:zef st an k):k<=(zat st an k 0).length:=by
 cases k with
 |zero=>exact zuL _
 |succ k=>
  have h1:=h k (by omega);obtain⟨t,ht⟩:=zdj st an k (k+1) (by omega);rw[ht,zt1];omega
theorem OrS.cells{W5:World}{cap:Nat}(h:OrS d W5 gt W k (.slice (some ⟨g,0,none⟩) k cap) v ls os n)(hn:k<n):∀W',Below W.heap.size W W'->∀x,x<k->∃gx cx,W'.cell? ⟨g,x,none⟩=some (.slice (some ⟨gx,0,none⟩) 256 cx)/\∀c,c<256->W'.cell? ⟨gx,c,none⟩=some (.int .i64 ((rwA d x c:Nat):Int)):=by
 intro W' hb x hx;have h':=h.on hb;have ho:=h'.fam.own (x+1) (by omega);rw[h'.lk x hx] at ho;obtain⟨gx,cx,e,_,_,hc⟩:=zbe ho (by rw[zfb];omega);rw[zfb] at e;refine⟨gx,cx,?_,fun c hc'=>?_⟩
 ·rw[h'.out.cellAt x (by omega)];simp[ziU,hx,e]
 ·rw[hc c (by rw[zfb];exact hc'),zrh _ _ hc']
def zf3(R:Nat->Nat->Nat)(hd:List Nat)(q:Nat):List Int:=(List.range q).flatMap fun k=>hd.map fun h=>(R k h:Int)
theorem zh1(R:Nat->Nat->Nat)(hd:List Nat)(q:Nat):zf3 R hd (q+1)=zf3 R hd q++hd.map fun h=>(R q h:Int):=by simp[zf3,List.range_succ]
theorem zoS(R:Nat->Nat->Nat)(hd:List Nat)(q:Nat):(zf3 R hd q).length=q*hd.length:=by
 induction q with
 |zero=>simp[zf3]
 |succ q ih=>rw[zh1,zt1,ih,zt3,zuJ]
def zeQ(R:Nat->Nat->Nat)(hd:List Nat)(q j:Nat):List Int:=zf3 R hd q++(hd.take j).map fun h=>(R q h:Int)
theorem zh0(R:Nat->Nat->Nat)(hd:List Nat)(q:Nat):zeQ R hd q 0=zf3 R hd q:=by simp[zeQ]
theorem zjR(R:Nat->Nat->Nat)(hd:List Nat)(q:Nat):zeQ R hd q hd.length=zf3 R hd (q+1):=by rw[zh1];simp[zeQ]
theorem zhZ(R:Nat->Nat->Nat)(hd:List Nat)(q:Nat){j:Nat}(hj:j<hd.length):zeQ R hd q (j+1)=zeQ R hd q j++[(R q (hd.getD j 0):Int)]:=by
 unfold zeQ;rw[ztD]
 congr 1
 rw[ztO,ztT hj,zut hj,zt9]
 rfl
theorem zjS(R:Nat->Nat->Nat)(hd:List Nat){q j:Nat}(hq:q<=4000)(hd2:hd.length<=256):(zeQ R hd q j).length<=1100000:=by
 unfold zeQ;rw[zt1,zoS,zt3,zt8];have:=zuG hq hd2;omega
theorem zfj(f:Nat->Int)(os:List Nat){q:Nat}(h:q<os.length):(os.take (q+1)).map f=(os.take q).map f++[f (os.getD q 0)]:=by
 rw[ztO,ztT h,zut h,zt9]
 rfl
theorem zcX.answers{ws:List Nat}(h:zcX (stN d) (anN d) os ws):(os.map fun s=>d.tag.getD s 0)=(ws.map fun s=>d.tag.getD s 0)/\(os.map fun s=>d.fin.getD s 0)=(ws.map fun s=>d.fin.getD s 0):=by
 induction h with
 |nil=>exact⟨rfl,rfl⟩
 |cons h1 _ ih=>
  have:=h1.an;unfold anN at this;injection this with t1 t2
  exact⟨by rw[zub,zub,t1,ih.1],by rw[zub,zub,t2,ih.2]⟩
theorem Fam.setLowD(h:Fam gt n W v l)(hb:b<=gt)(o:Nat)(u:Value):Fam gt n (W.setCell ⟨b,o,none⟩ u) v l:=h.keep fun c hc _=>zuS _ _ _ _ (by simp;omega)
def set5(W:World)(b:Nat)(u0 u1 u2 u3 u4:Value):World:=((((W.setCell ⟨b,0,none⟩ u0).setCell ⟨b,1,none⟩ u1).setCell ⟨b,2,none⟩ u2).setCell ⟨b,3,none⟩ u3).setCell ⟨b,4,none⟩ u4
theorem zbn{B:Nat}(h:Below B w W)(hb:B<=b)(u0 u1 u2 u3 u4:Value):Below B w (set5 W b u0 u1 u2 u3 u4):=
 ((((h.setCell (by exact hb) _).setCell (by exact hb) _).setCell (by exact hb) _).setCell (by exact hb) _).setCell (by exact hb) _
theorem Fam.set5(h:Fam gt n W v l)(hb:b<=gt)(u0 u1 u2 u3 u4:Value):Fam gt n (set5 W b u0 u1 u2 u3 u4) v l:=
 ((((h.setLowD hb _ _).setLowD hb _ _).setLowD hb _ _).setLowD hb _ _).setLowD hb _ _
theorem Fam.takeD{m:Nat}(h:Fam gt n W v l)(hm:m<=n):Fam gt m W v l:=
 ⟨fun i hi=>h.own i (by omega),fun i j hi hj=>h.apart i j (by omega) (by omega)⟩
end Go.Proofs.YthddplbodacjgaaGreatDoor
