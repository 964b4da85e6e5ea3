import Derived.Test.YthddplbodacjgaaGreatDoorC29
namespace Go.Proofs.YthddplbodacjgaaGreatDoor
set_option maxHeartbeats 8000000
set_option maxRecDepth 100000
open Go.RowKit
section
attribute [local go_sem ↓] Go.wp_at_zero Go.wp_at_succ
attribute [local go_sem ↓] zdU
theorem zhE{lo:Nat}(cv nv tv ev:Value)(d:DfaD)(w:World)(hs:zbU lo w cv nv tv ev d)(hB:dfaB d=true):
  Calls Tryz.prog 21 #[.agg #[cv,.int .i64 d.width,nv,tv,ev]] w (MinP w d):=by
 have hf:=zjl hB;obtain⟨i0,hi,hz0,hz1,hz2⟩:=info_parts Tryz.infoInt;obtain⟨iS,hjS,hyS0,hyS1,hyS2⟩:=info_parts Tryz.infoIntsD;replace hs:=hs.low (zuL _);have hn1:=hf.n1;have hn2:=hf.n2;have hs1:=hs;obtain⟨⟨ca,cc,rfl,cm,cx⟩,⟨na,nc,rfl,nm,nx⟩,⟨ta,tc,rfl,tm,tx⟩,⟨ea,ec,rfl,em,ex⟩⟩:=hs1;obtain⟨tb,to2,rfl,_,tl,tq⟩:=tx (by omega);obtain⟨eb,eo2,rfl,_,el,eq⟩:=ex (by have:=hf.fl;omega);generalize hcv:Value.slice ca d.classes.length cc=cv at *;generalize hnv:Value.slice na d.next.length nc=nv at *;clear cm nm cx nx tx ex hcv hnv;obtain⟨W0,hW0⟩:∃W0,(w.alloc (.cells #[cv,.int .i64 d.width,nv,.slice (some ⟨tb,to2,none⟩) d.tag.length tc,.slice (some ⟨eb,eo2,none⟩) d.fin.length ec] 26)).alloc (.cells zbf 26)=W0:=⟨_,rfl⟩;have hb0:Below w.heap.size w W0:=by rw[<-hW0];exact((Below.refl _ _).alloc (zuz _) _).alloc (by simp) _
 have x0:W0.heap[w.heap.size]?=some (.cells #[cv,.int .i64 d.width,nv,.slice (some ⟨tb,to2,none⟩) d.tag.length tc,.slice (some ⟨eb,eo2,none⟩) d.fin.length ec] 26 (0,0)):=by
  rw[<-hW0];exact(Below.heap_alloc _ _ _ (by simp)).trans (zuR w _)
 have z0:W0.heap[w.heap.size+1]?=some (.cells zbf 26 (0,0)):=by
  rw[<-hW0];have:=zuR (w.alloc (.cells #[cv,.int .i64 d.width,nv,.slice (some ⟨tb,to2,none⟩) d.tag.length tc,.slice (some ⟨eb,eo2,none⟩) d.fin.length ec] 26)) (.cells zbf 26)
  simpa using this
 have hT:=zfV cv nv _ _ d _ (hs.below hb0);rw[hB] at hT;unfold zbf at hW0;have c0:=zaq x0;obtain⟨q0,q1,q2,q3,q4⟩:=c0
 go_enter Tryz.func21,Tryz.ntmps21
 go_wp2_with fail
 refine hT.mono ?_;rintro e w1 ⟨rfl,hb1⟩;have x1:=zab x0 hb1;have z1:=zab z0 hb1;have B1:=zaa hb0 hb0.size hb1;clear q0 q1 q2 q3 q4 hT x0 z0 hb0 hb1;obtain⟨q0,q1,q2,q3,q4⟩:=zaq x1;have hL:=zjC cv nv _ _ d w1 (hs.below B1) hf
 go_wp2_with fail
 refine hL.mono ?_;rintro e w2 ⟨g,cap,l,rfl,hown,hR,hb2⟩;have x2:=zab x1 hb2;have z2:=zab z1 hb2;have B2:=zaa B1 B1.size hb2;clear q0 q1 q2 q3 q4 hL x1 z1;obtain⟨q0,q1,q2,q3,q4⟩:=zaq x2;have hlen:=zb2 _ l hR.nd hR.lt;have hA:=zm8 cv nv _ _ (.slice (some ⟨g,0,none⟩) l.length cap) d l w2 (hs.below B2) hf ((zmn hown (by omega)).low (zuL _)) hR
 go_wp2_with fail
 refine hA.mono ?_;rintro e w3 ⟨v,gr,m,B,rfl,hB3,hM,hb3,hm⟩;have x3:=zab x2 hb3;have z3:=zab z2 hb3;have B3:=zaa B2 B2.size hb3;have o3:=zad hown hb3;clear q0 q1 q2 q3 q4 hA x2 z2 hown;obtain⟨q0,q1,q2,q3,q4⟩:=zaq x3;obtain⟨ga,capa,rfl,hga,hga2,hgo⟩:=hM.outer hR.pos;have HM:Hid (∀W,Below w3.heap.size w3 W->MatI B W l.length l.length (.slice (some ⟨ga,0,none⟩) l.length capa) gr m):=fun W h=>hM.below h
 have hgl:=zcj o3;have HL:Hid (∀W,Below w3.heap.size w3 W->∀j,j<l.length->W.cell? ⟨g,j,none⟩=some (.int .i64 ((l.getD j 0:Nat):Int))):=fun W h j hj=>by rw[h.cell (p:=⟨g,j,none⟩) hgl,o3.cellAt j (by omega),zeB _ hj]
 clear hM hga hga2 o3 hb2 hb3 hgo hW0
 go_wp2_with (refine wpList_make_full _ rfl _ _ 24 rfl w3.heap.size 3 i0 _ 1 Tryz.underlying24 hi hz0 hz1 _ _ _ _ d.tag.length rfl rfl rfl rfl (by rw[hz2];omega) (by unfold maxLen;omega) (zuz _) ?_;intro w4 hown4 hgrow4)
 have hb4:Below w3.heap.size w3 w4:=(Below.refl _ _).grown hgrow4 (zuz _) (by intro k h;cases h);rw[ze5] at hown4;clear hgrow4 q0 q1 q2 q3 q4
 go_loopw [43] (fun i wr=>∃k:Nat,k<=l.length/\i=.int .i64 k/\Below w3.heap.size w3 wr/\∃zs:List Nat,Hid (ChL l m zs d.tag.length k)/\wr.ownsRow w3.heap.size 3 1 (.slice (some ⟨w3.heap.size,0,none⟩) d.tag.length d.tag.length) d.tag.length (natL zs))
  (fun i _=>l.length-(intOf i).toNat)
 case atStart=>exact⟨0,zuL _,rfl,hb4,_,⟨by simp,fun j hj=>absurd hj (zuI _)⟩,hown4⟩
 case round=>
  clear hown4 hb4;obtain⟨k,hk,rfl,hb5,zs,HC,hown⟩:=hrel;obtain⟨W5,hW5⟩:∃W5,W5=wr:=⟨_,rfl⟩;subst hW5
  by_cases hlt:k<l.length
  ·have hi1:(k:Int)<(l.length:Int):=by omega
   have c0:=HL.out _ hb5 k hlt;have hM5:=HM.out _ hb5;have o5:=hM5.out1 hlt;have Hc5:Hid (∀q,q<l.length->W5.cell? ⟨gr k,q,none⟩=some (.bool (m k q))):=fun q hq=>(hM5.cell hlt hq).1
   have Hkk:Hid (m k k=false):=(hm k k hlt hlt).2 (zbc.refl _ _ _);have hsl:=hR.lt _ (za3 hlt);have HNx:Hid (∀q,q<l.length->m k q=false->(∀j,j<q->m k j=true)->ChL l m (zs.set (l.getD k 0) (l.getD q 0)) d.tag.length (k+1)):=fun q a b c=>HC.out.next hR.nd hlt hsl a b c
   have Hst:Hid (∀s1:Nat,(W5.setCell ⟨w3.heap.size,l.getD k 0,none⟩ (.int .i64 (s1:Int))).ownsRow w3.heap.size 3 1 (.slice (some ⟨w3.heap.size,0,none⟩) d.tag.length d.tag.length) d.tag.length (natL (zs.set (l.getD k 0) s1))):=fun s1=>by
    have hst:=(hown.stored (l.getD k 0) (.int .i64 (s1:Int))).1;rw[ziH] at hst;exact hst
   obtain⟨u0,d0⟩:=zbN hown (j:=l.getD k 0) (by omega);have f0:=hown.frozenAt (l.getD k 0);have hi3:((l.getD k 0:Nat):Int)<(d.tag.length:Int):=by omega
   clear hM5;generalize l.getD k 0=s0 at *;go_wp2
   go_loopw [8] (fun i wr=>∃q:Nat,q<=k/\i=.int .i64 q/\wr=W5/\Hid (∀j,j<q->m k j=true))
    (fun i _=>l.length-(intOf i).toNat)
   case atStart=>exact⟨0,zuL _,rfl,rfl,fun j hj=>absurd hj (zuI _)⟩
   case round=>
    obtain⟨q,hq,rfl,rfl,HJ⟩:=hrel;have c1:=Hc5.out q (by omega);have hi2:(q:Int)<(l.length:Int):=by omega
    cases hmq:m k q
    ·rw[hmq] at c1;have c2:=HL.out _ hb5 q (by omega);have HN:Hid _:=HNx.out q (by omega) hmq HJ.out;generalize l.getD q 0=s1 at *;go_wp2
     go_roundw
     case rel=>exact⟨k+1,by omega,by go_num,hb5.setCell (zuz _) _,_,HN,Hst.out _⟩
     case measure=>simp[intOf];omega
    ·rw[hmq] at c1;have hqk:q≠k:=fun e=>by subst e;have:=Hkk.out;rw[hmq] at this;cases this
     go_wp2
     go_roundw
     case rel=>exact⟨q+1,by omega,by go_num,by first|exact rfl|trivial,fun j hj=>by
      by_cases e:j=q
      ·subst e;exact hmq
      ·exact HJ.out j (by omega)⟩
     case measure=>simp[intOf];omega
  ·have hkk:k=l.length:=by omega
   subst hkk;have hCh:ChI d l (fun s=>zs.getD s 0):=HC.out.chief hm;have HW5:Hid (Below w.heap.size w W5):=zaa B3 B3.size hb5;have x5:=zab x3 hb5;have z5:=zab z3 hb5;have hzs:zs.length=d.tag.length:=HC.out.1;have Hzc:Hid (∀W,Below W5.heap.size W5 W->∀j,j<d.tag.length->W.cell? ⟨w3.heap.size,j,none⟩=some (.int .i64 ((zs.getD j 0:Nat):Int))):=fun W h j hj=>by
    have h1:=zcj hown;rw[h.cell (p:=⟨w3.heap.size,j,none⟩) h1,hown.cellAt j (by omega),zeB _ (by omega)]
   have HCh:Hid _:=hCh;have HR:Hid (RchD d l):=hR;have HF:Hid (zaE d):=hf;have HS0:Hid (zbU 0 w _ _ _ _ d):=hs;obtain⟨gt,hgt⟩:∃gt,W5.heap.size=gt+1:=⟨W5.heap.size-1,by have:=zcj hown;omega⟩;have HO0:Hid _:=OrS.start (d:=d) (x:=zs.getD 0 0) hgt;have HI0:Hid _:=OsI.start hCh hR;have cz:=Hzc.out _ (Below.refl _ _) 0 (by omega);have Htx:Hid _:=tq;have Hfx:Hid _:=eq;have Hgt:Hid _:=hgt;clear hCh HC hR hf hs B1 B2 B3 x3 z3 hb5 hown hzs HM HL hm tq eq hB hB3 hgt;generalize zs.getD 0 0=ch0 at *;go_wp2
   go_loopw [9,10,11] (fun ov rv i wr=>∃(k g1 c1 g2 c2:Nat) (v:Nat->Value) (ls:Nat->List Int) (os:List Nat),i=.int .i64 k/\ov=.slice (some ⟨g1,0,none⟩) os.length c1/\rv=.slice (some ⟨g2,0,none⟩) k c2/\Hid (v 0=.slice (some ⟨g1,0,none⟩) os.length c1)/\Hid (OrS d W5 gt wr k (.slice (some ⟨g2,0,none⟩) k c2) v ls os (k+1))/\Hid (OsI d l (fun s=>zs.getD s 0) os k 0/\zef (stN d) (anN d) k))
    (fun _ _ i _=>d.tag.length-(intOf i).toNat)
   case atStart=>exact⟨0,W5.heap.size,1,W5.heap.size+1,0,(fun _=>.slice (some ⟨W5.heap.size,0,none⟩) 1 1),(fun _=>[(ch0:Int)]),[ch0],rfl,rfl,rfl,rfl,HO0.out,HI0.out,fun j hj=>absurd hj (zuI _)⟩
   case round=>
    clear HO0 HI0 cz;obtain⟨k,g1,c1,g2,c2,v,ls,os,rfl,rfl,rfl,Hv0,HO,HI⟩:=hrel;obtain⟨W6,hW6⟩:∃W6,W6=wr:=⟨_,rfl⟩;subst hW6;have hol:=HI.out.1.len HR.out
    by_cases hk:k<os.length
    ·have hi6:(k:Int)<(os.length:Int):=by omega
     have HO1:Hid _:=HO.out.new (by omega);have HG:Hid (zef (stN d) (anN d) (k+1)):=HI.out.2.next (by rw[<-HI.out.1.al.length];exact hk);go_wp2
     go_loopw [9,12,13] (fun ov rw i wr=>∃(c g1 c1 g3 c3:Nat) (v:Nat->Value) (ls:Nat->List Int) (os:List Nat),c<=256/\k<os.length/\i=.int .i64 c/\ov=.slice (some ⟨g1,0,none⟩) os.length c1/\rw=.slice (some ⟨g3,0,none⟩) c c3/\Hid (v 0=.slice (some ⟨g1,0,none⟩) os.length c1/\v (k+1)=.slice (some ⟨g3,0,none⟩) c c3/\ls (k+1)=rowP d k c)/\Hid (OrS d W5 gt wr k (.slice (some ⟨g2,0,none⟩) k c2) v ls os (k+2))/\Hid (OsI d l (fun s=>zs.getD s 0) os k c))
      (fun _ _ i _=>256-(intOf i).toNat)
     case atStart=>exact⟨0,g1,c1,_,_,_,_,os,zuL _,hk,rfl,rfl,rfl,⟨by rw[zaD _ _ (by omega)];exact Hv0.out,zaH _ _ _,zar _ _ _⟩,HO1.out,HI.out.1⟩
     case round=>
      clear HO1 hol hi6 hk Hv0 HO;obtain⟨c,g1,c1,g3,c3,v,ls,os,hc,hk,rfl,rfl,rfl,Hvv,HO,HI4⟩:=hrel;obtain⟨W7,hW7⟩:∃W7,W7=wr:=⟨_,rfl⟩;subst hW7
      by_cases hc2:c<256
      ·have hi8:(c:Int)<256:=by omega
       have hi7:(k:Int)<(os.length:Int):=by omega
       have hol:=HI4.out.len HR.out;obtain⟨t1,t2,t3,t4⟩:=HI4.out.to HCh.out HR.out hk hc2;have hok:=HR.out.lt _ (HI4.out.can _ (za3 hk)).1;have htn:=HR.out.lt _ t1;have hcn:=HR.out.lt _ t2;have hB7:Below w.heap.size w W7:=HW5.out.trans (HO.out.below.mono (by have:=HW5.out.size;rw[Hgt.out] at this;exact this));have hW57:Below W5.heap.size W5 W7:=HO.out.below.mono (by rw[Hgt.out];exact zuz _);have hgo:∀W,Below W7.heap.size W7 W->Calls Tryz.prog 44 #[.agg #[cv,.int .i64 d.width,nv,.slice (some ⟨tb,to2,none⟩) d.tag.length tc,.slice (some ⟨eb,eo2,none⟩) d.fin.length ec],.int .i64 ((os.getD k 0:Nat):Int),.int .i64 (c:Int)] W fun e w'=>e=.returned (.int .i64 ((stN d (os.getD k 0) c:Nat):Int))/\Below W.heap.size W w':=fun W hW=>zqT _ _ _ _ d _ c _ _ rfl W ((HS0.out.below hB7).below hW) HF.out hok hc2 rfl
       have Hgo:Hid _:=hgo;have hown1:=HO.out.fam.own 0 (by omega);rw[Hvv.out.1,HO.out.l0] at hown1;obtain⟨g1',c1',e1,_,hg1l,hoc⟩:=zbe hown1 (by rw[zag];omega);rw[zag] at e1;cases e1;have x7:=hW57.block _ (zae x5) |>.trans x5
       have HH:Hid (∀W,Below W7.heap.size W7 W->W.cell? ⟨w.heap.size,0,none⟩=some cv/\W.cell? ⟨w.heap.size,1,none⟩=some (.int .i64 d.width)/\W.cell? ⟨w.heap.size,2,none⟩=some nv/\W.cell? ⟨w.heap.size,3,none⟩=some (.slice (some ⟨tb,to2,none⟩) d.tag.length tc)/\W.cell? ⟨w.heap.size,4,none⟩=some (.slice (some ⟨eb,eo2,none⟩) d.fin.length ec)/\W.cell? ⟨g1,k,none⟩=some (.int .i64 ((os.getD k 0:Nat):Int))/\W.cell? ⟨w3.heap.size,stN d (os.getD k 0) c,none⟩=some (.int .i64 ((zs.getD (stN d (os.getD k 0) c) 0:Nat):Int))):=fun W hW=>by
        obtain⟨q0,q1,q2,q3,q4⟩:=zaq (zab x7 hW);refine⟨q0,q1,q2,q3,q4,?_,Hzc.out W (hW57.trans (hW.mono hW57.size)) _ htn⟩;rw[hW.cell (p:=⟨g1,k,none⟩) hg1l,hoc k (by rw[zag];exact hk),zbw]
       have Hold:Hid _:=fun h=>HI4.out.old HCh.out HR.out hk hc2 h
       have Hnew:Hid _:=fun h=>HI4.out.new HCh.out HR.out hk hc2 h
       have hi9:((stN d (os.getD k 0) c:Nat):Int)<(d.tag.length:Int):=by omega
       generalize hta:stN d (os.getD k 0) c=ta at *;generalize hza:zs.getD ta 0=za at *;generalize hso:os.getD k 0=so at *;clear hta hza hso t1 t2 t3 t4 hoc hown1 x7;go_wp2
       go_region_held3 (fun w'=>w'.cell? ⟨w.heap.size,0,none⟩=some cv/\w'.cell? ⟨w.heap.size,1,none⟩=some (.int .i64 d.width)/\w'.cell? ⟨w.heap.size,2,none⟩=some nv/\w'.cell? ⟨w.heap.size,3,none⟩=some (.slice (some ⟨tb,to2,none⟩) d.tag.length tc)/\w'.cell? ⟨w.heap.size,4,none⟩=some (.slice (some ⟨eb,eo2,none⟩) d.fin.length ec)/\w'.cell? ⟨g1,k,none⟩=some (.int .i64 (so:Int))/\w'.cell? ⟨w3.heap.size,ta,none⟩=some (.int .i64 (za:Int))) ((first|exact HH.out _ (Below.refl _ _)|exact HH.out _ (Below.refl _ _).drew|exact HH.out _ ((Below.refl _ _).drew.trans hb8))) ((go_at_call 44;refine(Hgo.out _ (Below.refl _ _).drew).mono ?_;rintro e w8 ⟨rfl,hb8⟩))
       have hb78:Below W7.heap.size W7 w8:=(Below.refl _ _).drew.trans hb8;have HO8:Hid _:=HO.out.on hb78;have hown8:=HO8.out.fam.own 0 (by omega);rw[Hvv.out.1,HO8.out.l0] at hown8;have hpl:=zdI _ (zav os) (za:Int) w8 (hown8.at (by rw[zag];omega));have hs8:=HO8.out.size;have Hl8:Hid _:=HO8.out.l0;have Hf8:Hid _:=HO8.out.fam;clear hgo hb78 hb8 hown8 hg1l hB7 hW57 Hgo HH HI4;generalize hpu:plF (zav os) (za:Int)=pu at *;clear hpu
       by_cases hp:pu<0
       ·have HI9:Hid _:=(Hnew.out hp).1;have Hp9:Hid _:=(Hnew.out hp).2;clear Hold Hnew
        go_wp2_with fail
        refine hpl.mono ?_;rintro e w' ⟨rfl,hw'⟩;subst w'
        go_wp2_with (at_builtin;refine za4 Hf8.out _ rfl rfl (.tmp 95) (.tmp 97) rfl 0 (by omega) (zav os) Hl8.out os.length (zag _) (by exact Hvv.out.1.symm) (za:Int) rfl (by omega) hs8 ?_;intro g4 c4 w9 hF9 hg9)
        have HO9:Hid _:=HO8.out.grow (by omega) (.inl rfl) hF9 hg9 (os':=os++[za]) (by rw[zar];simp[zav]);have hown9:=hF9.own 0 (by omega);rw[zaH,zar] at hown9;have hpl9:=zdI _ _ (za:Int) w9 (hown9.at (by simp[zav];omega));have e9:plF (zav os++[(za:Int)]) (za:Int)=(rwA d k c:Int):=by have:=Hp9.out;simpa [zav,rwA] using this
        rw[e9] at hpl9;have hs9:=HO9.out.size;have Hf9:Hid _:=HO9.out.fam;have Hv9:Hid (Value.slice (some ⟨g3,0,none⟩) c c3=upd v 0 (.slice (some ⟨g4,0,none⟩) (os.length+1) c4) (k+1)):=by
         show _=_;rw[zaD _ _ (by omega)];exact Hvv.out.2.1.symm
        have Hl9:Hid (updL ls 0 (zav os++[(za:Int)]) (k+1)=rowP d k c):=by
         show _=_;rw[zaf _ _ (by omega)];exact Hvv.out.2.2
        clear hF9 hg9 hown9 e9 hpl Hf8 HO8 Hl8;generalize hrc:(rwA d k c:Int)=rc at *;have Hrc:Hid _:=hrc;clear hrc;refine hpl9.mono ?_;rintro e w' ⟨rfl,hw'⟩;subst w'
        go_wp2_with (at_builtin;refine za4 Hf9.out _ rfl rfl (.tmp 99) (.tmp 103) rfl (k+1) (by omega) (rowP d k c) Hl9.out c (zfb _ _ _) (by exact Hv9.out) rc rfl (by omega) hs9 ?_;intro g5 c5 w10 hF10 hg10)
        have HO10:Hid _:=HO9.out.grow (i:=k+1) (by omega) (.inr (by omega)) hF10 hg10 (os':=os++[za]) (by rw[zaf _ _ (by omega),zar];simp[zav])
        go_roundw
        case rel=>
         refine⟨c+1,g4,c4,g5,c5,_,_,os++[za],by omega,by simp;omega,by go_num,by simp,rfl,⟨?_,zaH _ _ _,?_⟩,HO10.out,HI9.out⟩
         ·rw[zaD _ _ (by omega),zaH];simp
         ·rw[zar,zj5,<-Hrc.out]
        case measure=>simp[intOf];omega
       ·have HI9:Hid _:=(Hold.out (by omega)).1;have Hrc:Hid ((rwA d k c:Int)=pu):=(Hold.out (by omega)).2.symm;clear Hold Hnew
        go_wp2_with fail
        refine hpl.mono ?_;rintro e w' ⟨rfl,hw'⟩;subst w'
        go_wp2_with fail
        refine hpl.mono ?_;rintro e w' ⟨rfl,hw'⟩;subst w'
        go_wp2_with (at_builtin;refine za4 Hf8.out _ rfl rfl (.tmp 99) (.tmp 103) rfl (k+1) (by omega) (rowP d k c) Hvv.out.2.2 c (zfb _ _ _) (by exact Hvv.out.2.1.symm) pu rfl (by omega) hs8 ?_;intro g5 c5 w10 hF10 hg10)
        have HO10:Hid _:=HO8.out.grow (i:=k+1) (by omega) (.inr (by omega)) hF10 hg10 (os':=os) (by rw[zaf _ _ (by omega)];exact Hl8.out)
        go_roundw
        case rel=>
         refine⟨c+1,g1,c1,g5,c5,_,_,os,by omega,hk,by go_num,rfl,rfl,⟨?_,zaH _ _ _,?_⟩,HO10.out,HI9.out⟩
         ·rw[zaD _ _ (by omega)];exact Hvv.out.1
         ·rw[zar,zj5,<-Hrc.out]
        case measure=>simp[intOf];omega
      ·have hcc:c=256:=by omega
       subst hcc;have hol:=HI4.out.len HR.out;have hs7:=HO.out.size;have Hout:Hid _:=HO.out.out
       go_wp2_with (at_builtin;refine zaO W7 _ rfl rfl (.tmp 105) (.tmp 107) 93 rfl (gt+1) 24 iS (.slice none 0 0) 24 Tryz.underlying93 hjS hyS0 hyS1 hyS2 rfl g2 c2 k (ziU v k) (.slice (some ⟨g3,0,none⟩) 256 c3) rfl Hout.out rfl rfl (by omega) (by omega) hs7 ?_;intro g4 c4 w9 hown9 hgrow9 hat9)
       go_roundw
       case rel=>exact⟨k+1,g1,c1,g4,c4,v,ls,os,by go_num,rfl,rfl,Hvv.out.1,HO.out.more Hvv.out.2.2 hgrow9 (by rw[Hvv.out.2.1];exact hown9),HI4.out.row rfl,HG.out⟩
       case measure=>simp[intOf];omega
    ·have hkl:k=os.length:=by
      have:=zqy HI.out.2;rw[<-HI.out.1.al.length] at this;omega
     have Hkw:Hid ((zat (stN d) (anN d) k 0).length=k):=by
      show _=_;rw[<-HI.out.1.al.length];exact hkl.symm
     obtain⟨R,hRd⟩:∃R,R=rwA d:=⟨_,rfl⟩;have HRd:Hid _:=hRd;have HRw:Hid (∀W,Below W6.heap.size W6 W->∀x,x<k->∃gx cx,W.cell? ⟨g2,x,none⟩=some (.slice (some ⟨gx,0,none⟩) 256 cx)/\∀c,c<256->W.cell? ⟨gx,c,none⟩=some (.int .i64 ((R x c:Nat):Int))):=by
      rw[hRd];exact HO.out.cells (by omega)
     have Hos:Hid (∀W,Below W6.heap.size W6 W->∀j,j<os.length->W.cell? ⟨g1,j,none⟩=some (.int .i64 ((os.getD j 0:Nat):Int))):=fun W hW j hj=>by
      have ho:=HO.out.fam.own 0 (by omega);rw[Hv0.out,HO.out.l0] at ho;obtain⟨g',c',e1,_,hl1,hc⟩:=zbe ho (by rw[zag];omega);rw[zag] at e1;cases e1;rw[hW.cell (p:=⟨g1,j,none⟩) hl1,hc j (by rw[zag];exact hj),zbw]
     have hB6:Below w.heap.size w W6:=HW5.out.trans (HO.out.below.mono (by have:=HW5.out.size;rw[Hgt.out] at this;exact this));have hW56:Below W5.heap.size W5 W6:=HO.out.below.mono (by rw[Hgt.out];exact zuz _);have x6:=(hW56.block _ (zae x5)).trans x5;have z6:=(hW56.block _ (zae z5)).trans z5;have HS6:Hid _:=HdS.start (W8:=W6);have HB6:Hid _:=hB6;have HHk:Hid (k=os.length):=hkl;have hk4:k<=4000:=by omega
     clear hRd hkl hB6 hW56 x5 z5 HO Hzc Hgt;unfold zbf at HS6;go_wp2
     go_loopw [16,17] (fun hv i wr=>∃(c g4 c4:Nat) (v:Nat->Value) (ls:Nat->List Int),c<=256/\i=.int .i64 c/\hv=.slice (some ⟨g4,0,none⟩) (zah k R c).length c4/\Hid (v 4=.slice (some ⟨g4,0,none⟩) (zah k R c).length c4/\ls 4=zav (zah k R c)/\ls 0=(List.range c).map (fun c=>(clsF k R c:Int))/\ls 1=[]/\ls 2=[]/\ls 3=[])/\Hid (HdS W6 W6.heap.size wr 0 v ls))
      (fun _ i _=>256-(intOf i).toNat)
     case atStart=>exact⟨0,_,_,_,_,zuL _,rfl,rfl,⟨zaH _ _ _,zar _ _ _,rfl,rfl,rfl,rfl⟩,HS6.out⟩
     case round=>
      clear HS6;obtain⟨c,g4,c4,v,ls,hc,rfl,rfl,Hvv,HS⟩:=hrel;obtain⟨W9,hW9⟩:∃W9,W9=wr:=⟨_,rfl⟩;subst hW9
      by_cases hc2:c<256
      ·have hi8:(c:Int)<256:=by omega
       have hhl:=zcq k R c;have Hhd:Hid (∀W,Below W9.heap.size W9 W->∀j,j<(zah k R c).length->W.cell? ⟨g4,j,none⟩=some (.int .i64 (((zah k R c).getD j 0:Nat):Int))):=fun W hW j hj=>by
        have ho:=HS.out.fam.own 4 (by omega);rw[Hvv.out.1,Hvv.out.2.1] at ho;obtain⟨g',c',e1,_,hl1,hcc⟩:=zbe ho (by rw[zag];omega);rw[zag] at e1;cases e1;rw[hW.cell (p:=⟨g4,j,none⟩) hl1,hcc j (by rw[zag];exact hj),zbw]
       have H69:Hid (Below W6.heap.size W6 W9):=HS.out.below;have Hyes:Hid (∀j,j<(zah k R c).length->zbZ k R ((zah k R c).getD j 0) c=true->clsV k R c (j+1)=j):=fun j h1 h2=>zqq h1 h2
       have Hno:Hid (∀j,j<(zah k R c).length->zbZ k R ((zah k R c).getD j 0) c=false->clsV k R c (j+1)=clsV k R c j):=fun j h1 h2=>zr6 h1 h2
       have Hlt:Hid (∀j,j<(zah k R c).length->(zah k R c).getD j 0<c):=fun j hj=>zc0 k R c _ (za3 hj)
       have Hcl0:Hid (clsV k R c 0=-1):=by show _=_;unfold clsV;rw[zuU (by omega)]
       have HclE:Hid (clsV k R c (zah k R c).length=if clsF k R c<(zah k R c).length then (clsF k R c:Int) else -1):=rfl;have Hcle:Hid (clsF k R c<=(zah k R c).length):=ztN;have Hsuc:Hid _:=zba k R c;obtain⟨hd,hhd⟩:∃hd,zah k R c=hd:=⟨_,rfl⟩;obtain⟨cf,hcf⟩:∃cf,clsF k R c=cf:=⟨_,rfl⟩;obtain⟨cV,hcV⟩:∃cV:Nat->Int,(fun j=>clsV k R c j)=cV:=⟨_,rfl⟩;have HcV:Hid (∀j,clsV k R c j=cV j):=fun j=>congrFun hcV j
       rw[hhd] at Hhd Hyes Hno Hlt HclE Hcle Hsuc Hvv hhl ⊢;rw[hcf] at HclE Hcle Hsuc;have Hcf:Hid _:=hcf;have Hhh:Hid _:=hhd;clear hhd hcf hcV;go_wp2
       go_loopw [18,117] (fun cv i wr=>∃j:Nat,j<=hd.length/\i=.int .i64 j/\cv=.int .i64 (cV j)/\Below W9.heap.size W9 wr)
        (fun _ i _=>hd.length-(intOf i).toNat)
       case atStart=>exact⟨0,zuL _,rfl,by rw[<-HcV.out,Hcl0.out],Below.refl _ _⟩
       case round=>
        obtain⟨j,hj,rfl,rfl,hb9⟩:=hrel;obtain⟨W10,hW10⟩:∃W10,W10=wr:=⟨_,rfl⟩;subst hW10
        by_cases hj2:j<hd.length
        ·have hi9:(j:Int)<(hd.length:Int):=by omega
         have c0:=Hhd.out _ hb9 j hj2;have hlt:=Hlt.out j hj2;have Hy:Hid _:=Hyes.out j hj2;have Hn:Hid _:=Hno.out j hj2;generalize hd.getD j 0=h at *;go_wp2
         go_loopw [21,124] (fun sv i wr=>∃x:Nat,x<=k/\i=.int .i64 x/\sv=.bool (zbZ x R h c)/\Below W9.heap.size W9 wr)
          (fun _ i _=>k-(intOf i).toNat)
         case atStart=>exact⟨0,zuL _,rfl,rfl,hb9⟩
         case round=>
          obtain⟨x,hx,rfl,rfl,hb10⟩:=hrel
          by_cases hx2:x<k
          ·have hix:(x:Int)<(k:Int):=by omega
           obtain⟨gx,cx,o1,hcx⟩:=HRw.out wr (H69.out.trans (hb10.mono H69.out.size)) x hx2;have a1:=hcx h (by omega);have a2:=hcx c hc2;have hh2:(h:Int)<256:=by omega
           have HX:Hid (zbZ (x+1) R h c=(zbZ x R h c&&(R x h==R x c))):=zmO x R h c;clear hcx;generalize R x h=r1 at *;generalize R x c=r2 at *
           by_cases hr:r1=r2
           ·have hr1:((r1:Int) != (r2:Int))=false:=by simp[hr]
            go_wp2
            go_quiet (fail)
            go_wp2
            go_roundw
            case rel=>exact⟨x+1,by omega,by go_num,by rw[HX.out];simp[hr],below_drewN hb10 _⟩
            case measure=>simp[intOf];omega
           ·have hr1:((r1:Int) != (r2:Int))=true:=by simp;omega
            go_wp2
            go_quiet (fail)
            go_wp2
            go_roundw
            case rel=>exact⟨x+1,by omega,by go_num,by rw[HX.out];simp[hr],below_drewN hb10 _⟩
            case measure=>simp[intOf];omega
          ·have hxk:x=k:=by omega
           subst hxk;cases hce:zbZ x R h c
           ·have HE:Hid _:=Hn.out hce;go_wp2
            go_roundw
            case rel=>exact⟨j+1,by omega,by go_num,by rw[<-HcV.out,<-HcV.out,HE.out],hb10⟩
            case measure=>simp[intOf];omega
           ·have HE:Hid _:=Hy.out hce;go_wp2
            go_roundw
            case rel=>exact⟨j+1,by omega,by go_num,by rw[<-HcV.out,HE.out],hb10⟩
            case measure=>simp[intOf];omega
        ·have hjj:j=hd.length:=by omega
         subst hjj;have HS1:Hid _:=HS.out.on hb9;have hs1:=HS1.out.size;obtain⟨y0,y1,y2,y3,y4⟩:=zbT HS1.out.box;have Hf1:Hid _:=HS1.out.fam;obtain⟨⟨a0,p0⟩,e0⟩:=zaj (HS1.out.fam.own 0 (by omega));rw[Hvv.out.2.2.1] at e0;simp only[zt3,zt5] at e0;rw[e0] at y0;have He0:Hid _:=e0;have hce:=HclE.out;rw[HcV.out] at hce;have hgm:∀o,o=W6.heap.size->o=W6.heap.size:=fun _ h=>h
         clear e0 hgm y1 y2 y3 y4
         by_cases hcl:cf<hd.length
         ·rw[zuV hcl] at hce;rw[hce];clear hce
          go_wp2_with (at_builtin;refine za4 Hf1.out _ rfl rfl (.tmp 150) (.tmp 152) rfl 0 (by omega) ((List.range c).map (fun c=>(clsF k R c:Int))) Hvv.out.2.2.1 c (by simp) (by exact He0.out.symm) (cf:Int) rfl (by omega) hs1 ?_;intro g5 c5 w10 hF10 hg10;obtain⟨bx10,HN10⟩:=HS1.out.field (i:=0) (by omega) hF10 hg10;have y10:=(zbT bx10).1;rw[He0.out] at y10;have f10:=zuQ _ _ 0 _ _ bx10)
          go_roundw
          case rel=>
           have eh:zah k R (c+1)=hd:=by rw[Hsuc.out,zuV hcl]
           refine⟨c+1,g4,c4,_,_,by omega,by go_num,by rw[eh],⟨by rw[eh,zaD _ _ (by omega)];exact Hvv.out.1,by rw[eh,zaf _ _ (by omega)];exact Hvv.out.2.1,?_,?_,?_,?_⟩,HN10⟩
           ·rw[zar,zun,zt9];simp[Hcf.out]
           ·rw[zaf _ _ (by omega)];exact Hvv.out.2.2.2.1
           ·rw[zaf _ _ (by omega)];exact Hvv.out.2.2.2.2.1
           ·rw[zaf _ _ (by omega)];exact Hvv.out.2.2.2.2.2
          case measure=>simp[intOf];omega
         ·rw[zuU hcl] at hce;rw[hce];have hcfe:cf=hd.length:=by have:=Hcle.out;omega
          have Hcfe:Hid _:=hcfe;clear hce hcfe y0
          go_wp2_with (first|(at_builtin;refine za4 Hf1.out _ rfl rfl (.tmp 145) (.tmp 147) rfl 4 (by omega) (zav hd) Hvv.out.2.1 hd.length (zag _) (by exact Hvv.out.1.symm) (c:Int) rfl (by omega) hs1 ?_;intro g5 c5 w10 hF10 hg10;have HS2:Hid _:=HS1.out.heads hF10 hg10;have hs2:=HS2.out.size;have y10:=(zbT HS2.out.box).1;rw[zaD _ _ (by omega),He0.out] at y10;have Hf2:Hid _:=HS2.out.fam;clear hF10 hg10)|(at_builtin;refine za4 Hf2.out _ rfl rfl (.tmp 150) (.tmp 152) rfl 0 (by omega) ((List.range c).map (fun c=>(clsF k R c:Int))) (by rw[zaf _ _ (by omega)];exact Hvv.out.2.2.1) c (by simp) (by rw[zaD _ _ (by omega)];exact He0.out.symm) (hd.length:Int) rfl (by omega) hs2 ?_;intro g6 c6 w11 hF11 hg11;obtain⟨bx11,HN11⟩:=HS2.out.field (i:=0) (by omega) hF11 hg11;have y11:=(zbT bx11).1;rw[zaD _ _ (by omega),He0.out] at y11;have f11:=zuQ _ _ 0 _ _ bx11))
          go_roundw
          case rel=>
           have eh:zah k R (c+1)=hd++[c]:=by rw[Hsuc.out,zuU hcl]
           refine⟨c+1,g5,c5,_,_,by omega,by go_num,by rw[eh];simp,⟨?_,?_,?_,?_,?_,?_⟩,HN11⟩
           ·rw[eh,zaD _ _ (by omega),zaH];simp
           ·rw[eh,zaf _ _ (by omega),zar];simp[zav]
           ·rw[zar,zun,zt9];simp[Hcf.out,Hcfe.out]
           ·rw[zaf _ _ (by omega),zaf _ _ (by omega)];exact Hvv.out.2.2.2.1
           ·rw[zaf _ _ (by omega),zaf _ _ (by omega)];exact Hvv.out.2.2.2.2.1
           ·rw[zaf _ _ (by omega),zaf _ _ (by omega)];exact Hvv.out.2.2.2.2.2
          case measure=>simp[intOf];omega
      ·have hcc:c=256:=by omega
       have Hcc:Hid (c=256):=hcc;clear hcc;have hhl:=zcq k R c;have HSw:Hid _:=HS.out.width ((zah k R c).length:Int);obtain⟨y0,y1,y2,y3,y4⟩:=zbT HS.out.box;have f1:=zuQ _ _ 1 _ _ HS.out.box;have HmL:Hid (∀ls':Nat->List Int,ls' 0=(List.range c).map (fun c=>(clsF k R c:Int))->ls' 1=zf3 R (zah k R c) os.length->ls' 2=(os.take os.length).map (fun s=>d.tag.getD s 0)->ls' 3=(os.take os.length).map (fun s=>d.fin.getD s 0)->∀i,i<4->ls' i=mnL d k i):=fun ls' h0 h1 h2 h3 i hi=>by
        rw[zuq] at h2 h3;have ha:=HI.out.1.al.answers
        match i,hi with
        |0,_=>rw[h0,HRd.out,Hcc.out];rfl
        |1,_=>rw[h1,HRd.out,<-HHk.out,Hcc.out];rfl
        |2,_=>rw[h2,ha.1];rfl
        |3,_=>rw[h3,ha.2];rfl
       have HwL:Hid ((zah k R c).length=(zah k (rwA d) 256).length):=by show _=_;rw[HRd.out,Hcc.out]
       have Hlt:Hid (∀j,j<(zah k R c).length->(zah k R c).getD j 0<256):=fun j hj=>by have:=zc0 k R c _ (za3 hj);omega
       have Hon:Hid (∀q,q<os.length->os.getD q 0<d.tag.length):=fun q hq=>HR.out.lt _ (HI.out.1.can _ (za3 hq)).1
       have Hot:Hid (∀W,Below W6.heap.size W6 W->∀s,s<d.tag.length->W.cell? ⟨tb,to2+s,none⟩=some (.int .i64 (d.tag.getD s 0))/\W.cell? ⟨eb,eo2+s,none⟩=some (.int .i64 (d.fin.getD s 0))):=fun W hW s hs=>by
        have hBW:=HB6.out.trans (hW.mono HB6.out.size);exact⟨by rw[hBW.cell (p:=⟨tb,to2+s,none⟩) tl];exact Htx.out s hs,by rw[hBW.cell (p:=⟨eb,eo2+s,none⟩) el];exact Hfx.out s (by have:=HF.out.fl;omega)⟩
       have HfL:Hid (d.fin.length=d.tag.length):=HF.out.fl;have HHG:Hid _:=HI.out.2;generalize zah k R c=hd at *;clear hn1;go_wp2
       go_loopw [160] (fun i wr=>∃(q:Nat) (v:Nat->Value) (ls:Nat->List Int),q<=os.length/\i=.int .i64 q/\Hid (v 4=.slice (some ⟨g4,0,none⟩) hd.length c4/\ls 4=zav hd/\ls 0=(List.range c).map (fun c=>(clsF k R c:Int))/\ls 1=zf3 R hd q/\ls 2=(os.take q).map (fun s=>d.tag.getD s 0)/\ls 3=(os.take q).map (fun s=>d.fin.getD s 0))/\Hid (HdS W6 W6.heap.size wr (hd.length:Int) v ls))
        (fun i _=>os.length-(intOf i).toNat)
       case atStart=>exact⟨0,v,ls,zuL _,rfl,⟨Hvv.out.1,Hvv.out.2.1,Hvv.out.2.2.1,by rw[Hvv.out.2.2.2.1];rfl,by rw[Hvv.out.2.2.2.2.1];rfl,by rw[Hvv.out.2.2.2.2.2];rfl⟩,HSw.out⟩
       case round=>
        clear HSw Hvv HS y0 y1 y2 y3 y4 f1;obtain⟨q,v,ls,hq,rfl,Hvv,HS⟩:=hrel;obtain⟨W9,hW9⟩:∃W9,W9=wr:=⟨_,rfl⟩;subst hW9
        by_cases hq2:q<os.length
        ·have hi9:(q:Int)<(os.length:Int):=by omega
         have hik:(q:Int)<(k:Int):=by have:=HHk.out;omega
         have hqk:q<k:=by omega
         have c0:=Hos.out _ HS.out.below q hq2;have hso:=Hon.out q hq2;have HT:Hid _:=zfj (fun s=>d.tag.getD s 0) os hq2;have HE:Hid _:=zfj (fun s=>d.fin.getD s 0) os hq2;have Hco:Hid (∀W,Below W6.heap.size W6 W->W.cell? ⟨tb,to2+os.getD q 0,none⟩=some (.int .i64 (d.tag.getD (os.getD q 0) 0))/\W.cell? ⟨eb,eo2+os.getD q 0,none⟩=some (.int .i64 (d.fin.getD (os.getD q 0) 0))):=fun W hW=>Hot.out W hW _ hso
         have hif:((os.getD q 0:Nat):Int)<(d.fin.length:Int):=by have:=HfL.out;omega
         have hit:((os.getD q 0:Nat):Int)<(d.tag.length:Int):=by omega
         generalize d.tag.getD (os.getD q 0) 0=t1 at *;generalize d.fin.getD (os.getD q 0) 0=t2 at *;generalize os.getD q 0=so at *;go_wp2
         go_loopw [167] (fun i wr=>∃(j:Nat) (v:Nat->Value) (ls:Nat->List Int),j<=hd.length/\i=.int .i64 j/\Hid (v 4=.slice (some ⟨g4,0,none⟩) hd.length c4/\ls 4=zav hd/\ls 0=(List.range c).map (fun c=>(clsF k R c:Int))/\ls 1=zeQ R hd q j/\ls 2=(os.take q).map (fun s=>d.tag.getD s 0)/\ls 3=(os.take q).map (fun s=>d.fin.getD s 0))/\Hid (HdS W6 W6.heap.size wr (hd.length:Int) v ls))
          (fun i _=>hd.length-(intOf i).toNat)
         case atStart=>exact⟨0,v,ls,zuL _,rfl,⟨Hvv.out.1,Hvv.out.2.1,Hvv.out.2.2.1,by rw[zh0];exact Hvv.out.2.2.2.1,Hvv.out.2.2.2.2.1,Hvv.out.2.2.2.2.2⟩,HS.out⟩
         case round=>
          clear c0 Hvv HS;obtain⟨j,v,ls,hj,rfl,Hvv,HS⟩:=hrel;have hs1:=HS.out.size;have hgl:W6.heap.size<wr.heap.size:=by omega
          have Hf1:Hid _:=HS.out.fam;obtain⟨y0,y1,y2,y3,y4⟩:=zbT HS.out.box
          by_cases hj2:j<hd.length
          ·have hij:(j:Int)<(hd.length:Int):=by omega
           have chd:wr.cell? ⟨g4,j,none⟩=some (.int .i64 ((hd.getD j 0:Nat):Int)):=by
            have ho:=HS.out.fam.own 4 (by omega);rw[Hvv.out.1,Hvv.out.2.1] at ho;obtain⟨g',c',e1,_,hl1,hcc⟩:=zbe ho (by rw[zag];omega);rw[zag] at e1;cases e1;rw[hcc j (by rw[zag];exact hj2),zbw]
           have hlt:=Hlt.out j hj2;obtain⟨gx,cx,o1,hcx⟩:=HRw.out wr HS.out.below q hqk;have a1:=hcx _ hlt;have HJ:Hid _:=zhZ R hd q hj2;have hnL:=zjS R hd (q:=q) (j:=j) (by omega) (by omega);obtain⟨⟨a0,p0⟩,e0⟩:=zaj (HS.out.fam.own 1 (by omega));rw[Hvv.out.2.2.2.1] at e0;obtain⟨nl,hnl⟩:∃nl,(zeQ R hd q j).length=nl:=⟨_,rfl⟩;rw[hnl] at e0 hnL;rw[e0] at y2;have He0:Hid _:=e0;have Hnl:Hid _:=hnl;have hh2:((hd.getD j 0:Nat):Int)<256:=by omega
           clear hnl e0 hcx y0 y1 y3 y4;generalize R q (hd.getD j 0)=r at *;generalize hd.getD j 0=h at *;obtain⟨g5,c5,w10,hrun,hF10,hg10⟩:=zkB Hf1.out 1 (by omega) (zeQ R hd q j) Hvv.out.2.2.2.1 nl Hnl.out _ He0.out (r:Int) (by omega) hs1 24;obtain⟨bx10,HN10'⟩:=HS.out.fieldAt (i:=1) (off:=2) (by omega) rfl hF10 hg10;have HN10:Hid _:=HN10';have y10:=(zbT bx10).2.2.1;rw[He0.out] at y10;have f10:=zuQ _ _ 2 _ _ bx10;clear hF10 hg10 bx10 HN10';go_wp2
           go_big_region
           all_goals
            go_wp2
            go_roundw
            case rel=>
             refine⟨j+1,_,_,by omega,by go_num,⟨?_,?_,?_,?_,?_,?_⟩,HN10.out⟩
             ·rw[zaD _ _ (by omega)];exact Hvv.out.1
             ·rw[zaf _ _ (by omega)];exact Hvv.out.2.1
             ·rw[zaf _ _ (by omega)];exact Hvv.out.2.2.1
             ·rw[zar,HJ.out]
             ·rw[zaf _ _ (by omega)];exact Hvv.out.2.2.2.2.1
             ·rw[zaf _ _ (by omega)];exact Hvv.out.2.2.2.2.2
            case measure=>simp[intOf];omega
          ·have hjj:j=hd.length:=by omega
           subst hjj;obtain⟨k1,k2⟩:=Hco.out _ HS.out.below;have xw:=(HS.out.below.block _ (zae x6)).trans x6;obtain⟨q0,q1,q2,q3,q4⟩:=zaq xw;obtain⟨⟨a0,p0⟩,e0⟩:=zaj (HS.out.fam.own 2 (by omega));rw[Hvv.out.2.2.2.2.1,zt3,zt8,zuE (by omega)] at e0;rw[e0] at y3;have He0:Hid _:=e0;obtain⟨g5,c5,w10,hrun,hF10,hg10⟩:=zkB Hf1.out 2 (by omega) ((os.take q).map (fun s=>d.tag.getD s 0)) Hvv.out.2.2.2.2.1 q (by rw[zt3,zt8,zuE (by omega)]) _ He0.out t1 (by omega) hs1 24;obtain⟨bx10,HN10'⟩:=HS.out.fieldAt (i:=2) (off:=3) (by omega) rfl hF10 hg10;have y10:=(zbT bx10).2.2.2.1;rw[He0.out] at y10;have f10:=zuQ _ _ 3 _ _ bx10;obtain⟨W11,hW11⟩:∃W11,w10.setCell ⟨W6.heap.size,3,none⟩ (.slice (some ⟨g5,0,none⟩) (q+1) c5)=W11:=⟨_,rfl⟩;rw[hW11] at HN10';have HN10:Hid _:=HN10';clear hF10 hg10 bx10 HN10' e0 xw y0 y1 y2 y4 q0 q1 q2 q4 k2;go_wp2
           go_big_region
           clear hW11 hrun y10 f10 y3 q3 k1 hs1 hgl;obtain⟨k1,k2⟩:=Hco.out _ HN10.out.below;have xw:=(HN10.out.below.block _ (zae x6)).trans x6;obtain⟨q0,q1,q2,q3,q4⟩:=zaq xw;obtain⟨y0,y1,y2,y3,y4⟩:=zbT HN10.out.box;rw[zaD _ _ (by omega)] at y4;have hl3:updL ls 2 ((os.take q).map (fun s=>d.tag.getD s 0)++[t1]) 3=(os.take q).map (fun s=>d.fin.getD s 0):=by rw[zaf _ _ (by omega)];exact Hvv.out.2.2.2.2.2
           have Hl3:Hid _:=hl3;obtain⟨⟨a0',p0'⟩,e0⟩:=zaj (HN10.out.fam.own 3 (by omega));rw[hl3,zaD _ _ (by omega),zt3,zt8,zuE (by omega)] at e0;rw[e0] at y4;have He1:Hid _:=e0;have hs1:=HN10.out.size;have hgl:W6.heap.size<W11.heap.size:=by omega
           obtain⟨g6,c6,w12,hrun,hF12,hg12⟩:=zkB HN10.out.fam 3 (by omega) ((os.take q).map (fun s=>d.fin.getD s 0)) hl3 q (by rw[zt3,zt8,zuE (by omega)]) (.slice a0' q p0') (by rw[zaD _ _ (by omega)];exact He1.out) t2 (by omega) hs1 24;obtain⟨bx12,HN12'⟩:=HN10.out.fieldAt (i:=3) (off:=4) (by omega) rfl hF12 hg12;have y12:=(zbT bx12).2.2.2.2;rw[zaD _ _ (by omega),He1.out] at y12;have f12:=zuQ _ _ 4 _ _ bx12;have HN12:Hid _:=HN12';clear hF12 hg12 bx12 HN12' e0 xw y0 y1 y2 y3 q0 q1 q2 q3 k1 hl3;go_wp2
           go_big_region
           go_wp2
           go_roundw
           case rel=>
            refine⟨q+1,_,_,by omega,by go_num,⟨?_,?_,?_,?_,?_,?_⟩,HN12.out⟩
            ·rw[zaD _ _ (by omega),zaD _ _ (by omega)];exact Hvv.out.1
            ·rw[zaf _ _ (by omega),zaf _ _ (by omega)];exact Hvv.out.2.1
            ·rw[zaf _ _ (by omega),zaf _ _ (by omega)];exact Hvv.out.2.2.1
            ·rw[zaf _ _ (by omega),zaf _ _ (by omega),<-zjR];exact Hvv.out.2.2.2.1
            ·rw[zaf _ _ (by omega),zar,HT.out]
            ·rw[zar,HE.out]
           case measure=>simp[intOf];omega
        ·have hqq:q=os.length:=by omega
         have zw:=(HS.out.below.block _ (zae z6)).trans z6;unfold zbf at zw;obtain⟨z0,z1,z2,z3,z4⟩:=zaq zw;have fz:∀o,W9.frozen? ⟨w.heap.size+1,o,none⟩=false:=fun _=>zuQ _ _ _ _ _ zw
         obtain⟨y0,y1,y2,y3,y4⟩:=zbT HS.out.box;obtain⟨⟨a0,p0⟩,e0⟩:=zaj (HS.out.fam.own 0 (by omega));obtain⟨⟨a1,p1⟩,e1⟩:=zaj (HS.out.fam.own 1 (by omega));obtain⟨⟨a2,p2⟩,e2⟩:=zaj (HS.out.fam.own 2 (by omega));obtain⟨⟨a3,p3⟩,e3⟩:=zaj (HS.out.fam.own 3 (by omega));rw[e0] at y0;rw[e1] at y2;rw[e2] at y3;rw[e3] at y4;have HFE:Hid (Fam W6.heap.size 4 (set5 W9 (w.heap.size+1) (.slice a0 (ls 0).length p0) (.int .i64 (hd.length:Int)) (.slice a1 (ls 1).length p1) (.slice a2 (ls 2).length p2) (.slice a3 (ls 3).length p3)) v (mnL d k)):=((HS.out.fam.takeD (by omega)).congr (fun _ _=>rfl) (HmL.out ls Hvv.out.2.2.1 (by rw[<-hqq];exact Hvv.out.2.2.2.1) (by rw[<-hqq];exact Hvv.out.2.2.2.2.1) (by rw[<-hqq];exact Hvv.out.2.2.2.2.2))).set5 (by have:=zae z6;omega) _ _ _ _ _;have HBE:Hid (Below w.heap.size w (set5 W9 (w.heap.size+1) (.slice a0 (ls 0).length p0) (.int .i64 (hd.length:Int)) (.slice a1 (ls 1).length p1) (.slice a2 (ls 2).length p2) (.slice a3 (ls 3).length p3))):=zbn (HB6.out.trans (HS.out.below.mono HB6.out.size)) (by omega) _ _ _ _ _;have Hrow:Hid (rowD ((zah k (rwA d) 256).length:Int) v=#[.slice a0 (ls 0).length p0,.int .i64 (hd.length:Int),.slice a1 (ls 1).length p1,.slice a2 (ls 2).length p2,.slice a3 (ls 3).length p3]):=by
          show _=_;unfold rowD;rw[e0,e1,e2,e3,<-HwL.out]
         have hwm:w.heap.size<=W6.heap.size:=HB6.out.size;have hne6:¬W6.heap.size=w.heap.size+1:=by have:=zae z6;omega
         have Hgo2:Hid _:=HHG.out;clear e0 e1 e2 e3 hqq zw;generalize (ls 0).length=n0 at *;generalize (ls 1).length=n1 at *;generalize (ls 2).length=n2 at *;generalize (ls 3).length=n3 at *;go_wp2;refine zuN (v:=.agg #[.slice a0 n0 p0,.int .i64 (hd.length:Int),.slice a1 n1 p1,.slice a2 n2 p2,.slice a3 n3 p3]) (by simp[results,Tryz.results21,go_sem,z0,z1,z2,z3,z4]) rfl ?_;exact⟨k,Hgo2.out,Hkw.out,W6.heap.size,v,by rw[Hrow.out],hwm,HFE.out,HBE.out⟩
end
section
structure WkI(d:DfaD)(o:List Nat)(os:List Nat)(nb:List Int):Prop where
 lt:∀x∈os,x<d.tag.length
 nd:os.Nodup
 nl:nb.length=d.tag.length
 num:∀t,t<d.tag.length->nb.getD (o.getD t 0) 0=if idxA (stN d) (anN d) os t<os.length then (idxA (stN d) (anN d) os t:Int) else -1
theorem WkI.len{d:DfaD}{o os:List Nat}{nb:List Int}(h:WkI d o os nb):os.length<=d.tag.length:=zb2 _ _ h.nd h.lt
theorem zgB{l:List Int}{i:Nat}{x:Int}(h:i<l.length):(l.set i x).getD i 0=x:=by
 rw[ztO,List.getElem?_set_self h];rfl
theorem zfN{l:List Int}{i j:Nat}{x:Int}(h:i≠j):(l.set i x).getD j 0=l.getD j 0:=by
 rw[ztO,List.getElem?_set_ne h,ztO]
theorem WkI.start{d:DfaD}{o:List Nat}(hn:0<d.tag.length)(ho:∀s,s<d.tag.length->o.getD s 0<d.tag.length)(hA:∀s t,s<d.tag.length->t<d.tag.length->(o.getD s 0=o.getD t 0↔zbc (stN d) (anN d) s t)):
  WkI d o [0] ((List.replicate d.tag.length (-1:Int)).set (o.getD 0 0) 0):=by
 refine⟨fun x hx=>by simp at hx;omega,by simp,by simp,fun t ht=>?_⟩;have h0:=ho 0 hn;have ht2:=ho t ht
 by_cases e:o.getD 0 0=o.getD t 0
 ·have al:=(hA 0 t hn ht).1 e;have hi:idxA (stN d) (anN d) [0] t=0:=by simp[idxA,al]
  rw[<-e,zgB (by simpa using h0),hi];simp
 ·have al:¬zbc (stN d) (anN d) 0 t:=fun k=>e ((hA 0 t hn ht).2 k)
  have hi:idxA (stN d) (anN d) [0] t=1:=by simp[idxA,al]
  rw[zfN e,hi,ztO,List.getElem?_replicate_of_lt ht2];simp
theorem WkI.add{d:DfaD}{o os:List Nat}{nb:List Int}(h:WkI d o os nb)(ho:∀s,s<d.tag.length->o.getD s 0<d.tag.length)(hA:∀s t,s<d.tag.length->t<d.tag.length->(o.getD s 0=o.getD t 0↔zbc (stN d) (anN d) s t)){x:Nat}(hx:x<d.tag.length)(hn:¬idxA (stN d) (anN d) os x<os.length):
  WkI d o (os++[x]) (nb.set (o.getD x 0) (os.length:Int)):=by
 have hne:x∉os:=fun hm=>hn (zgI.2 ⟨x,hm,zbc.refl _ _ _⟩)
 refine⟨fun y hy=>?_,?_,by rw[List.length_set];exact h.nl,fun t ht=>?_⟩
 ·rcases zuc.1 hy with k|k
  ·exact h.lt y k
  ·simp at k;omega
 ·rw[zuk];exact⟨h.nd,by simp,fun a ha b hb e=>by simp at hb;subst hb;exact hne (e ▸ ha)⟩
 ·have hxo:=ho x hx
  by_cases e:o.getD x 0=o.getD t 0
  ·have al:=(hA x t hx ht).1 e;have hi:¬idxA (stN d) (anN d) os t<os.length:=fun k=>by
    obtain⟨y,h1,h2⟩:=zgI.1 k;exact hn (zgI.2 ⟨y,h1,h2.trans al.symm⟩)
   rw[<-e,zgB (by rw[h.nl];exact hxo),zgh hi,zuV al,zuV (by simp)]
  ·have al:¬zbc (stN d) (anN d) x t:=fun k=>e ((hA x t hx ht).2 k)
   rw[zfN e,h.num t ht]
   by_cases k:idxA (stN d) (anN d) os t<os.length
   ·rw[zuV k,zoC k,zuV (by simp;omega)]
   ·rw[zuU k,zgh k,zuU al,zuU (by simp)]
theorem WkI.next{d:DfaD}(hf:zaE d){o:List Nat}{nb:List Int}{k c:Nat}(h:WkI d o (zat (stN d) (anN d) k c) nb)(hk:k<(zat (stN d) (anN d) k c).length)(hc:c<256)(ho:∀s,s<d.tag.length->o.getD s 0<d.tag.length)(hA:∀s t,s<d.tag.length->t<d.tag.length->(o.getD s 0=o.getD t 0↔zbc (stN d) (anN d) s t)){x:Nat}(hx:stN d ((zat (stN d) (anN d) k c).getD k 0) c=x):
  x<d.tag.length/\(nb.getD (o.getD x 0) 0=-1->zat (stN d) (anN d) k (c+1)=zat (stN d) (anN d) k c++[x]/\WkI d o (zat (stN d) (anN d) k c++[x]) (nb.set (o.getD x 0) ((zat (stN d) (anN d) k c).length:Int)))/\(nb.getD (o.getD x 0) 0≠-1->zat (stN d) (anN d) k (c+1)=zat (stN d) (anN d) k c):=by
 have hs:=h.lt _ (za3 hk);have hxn:x<d.tag.length:=by rw[<-hx];exact hf.stc hs hc
 have hnum:=h.num x hxn;refine⟨hxn,fun e=>?_,fun e=>?_⟩
 ·have hi:¬idxA (stN d) (anN d) (zat (stN d) (anN d) k c) x<(zat (stN d) (anN d) k c).length:=fun k1=>by rw[zuV k1] at hnum;omega
  exact⟨by rw[zcl,hx];unfold addA;rw[zuU hi],h.add ho hA hxn hi⟩
 ·have hi:idxA (stN d) (anN d) (zat (stN d) (anN d) k c) x<(zat (stN d) (anN d) k c).length:=by
   by_cases k1:idxA (stN d) (anN d) (zat (stN d) (anN d) k c) x<(zat (stN d) (anN d) k c).length
   ·exact k1
   ·rw[zuU k1] at hnum;exact absurd hnum e
  rw[zcl,hx];unfold addA;rw[zuV hi]
theorem Fam.pick{gt n m:Nat}{W:World}{v:Nat->Value}{l:Nat->List Int}(h:Fam gt n W v l)(f:Nat->Nat)(hf:∀i,i<m->f i<n)(hi:∀i j,i<m->j<m->i≠j->f i≠f j):Fam gt m W (fun i=>v (f i)) (fun i=>l (f i)):=
 ⟨fun i h1=>h.own _ (hf i h1),fun i j h1 h2 hne b hb=>h.apart _ _ (hf i h1) (hf j h2) (hi i j h1 h2 hne) b hb⟩
structure WbS(w:World)(D:Array Value)(bv:Value)(os:List Nat)(nb:List Int)(k gN:Nat)(v:Nat->Value)(l:Nat->List Int)(W:World):Prop where
 fam:Fam (w.heap.size+3) 3 W v l
 l0:l 0=zav os
 l1:l 1=nb
 l2:l 2=[(k:Int)]
 v2:v 2=.slice (some ⟨gN,0,none⟩) 1 1
 bD:W.heap[w.heap.size]?=some (.cells D 26 (0,0))
 bB:W.heap[w.heap.size+1]?=some (.cells #[bv] 24 (0,0))
 b4:W.heap[w.heap.size+1+1]?=some (.cells #[v 0] 24 (0,0))
 b5:W.heap[w.heap.size+1+1+1]?=some (.cells #[v 1] 24 (0,0))
 be:Below w.heap.size w W
section
variable {w:World} {D:Array Value} {bv:Value} {os:List Nat} {nb:List Int} {k gN:Nat} {v:Nat->Value} {l:Nat->List Int} {W W':World}
theorem WbS.size(h:WbS w D bv os nb k gN v l W):w.heap.size+4<=W.heap.size:=by have:=zae h.b5;omega
theorem WbS.on(h:WbS w D bv os nb k gN v l W)(hb:Below W.heap.size W W'):WbS w D bv os nb k gN v l W':=
 ⟨h.fam.below hb,h.l0,h.l1,h.l2,h.v2,zab h.bD hb,zab h.bB hb,zab h.b4 hb,zab h.b5 hb,h.be.trans (hb.mono h.be.size)⟩
theorem WbS.cells(h:WbS w D bv os nb k gN v l W)(hc:∀(b:Nat) (cs:Array Value) (t:TypeId),W.heap[b]?=some (.cells cs t (0,0))->W'.heap[b]?=some (.cells cs t (0,0)))(hb:Below w.heap.size w W'):WbS w D bv os nb k gN v l W':=
 ⟨h.fam.keepO fun i hi b e=>by obtain⟨cs,h1⟩:=za9 (h.fam.own i hi) e;rw[hc _ _ _ h1,h1],h.l0,h.l1,h.l2,h.v2,hc _ _ _ h.bD,hc _ _ _ h.bB,hc _ _ _ h.b4,hc _ _ _ h.b5,hb⟩
theorem WbS.app(h:WbS w D bv os nb k gN v l W){u:Value}{x:Nat}(hF:Fam (w.heap.size+3) 3 W' (upd v 0 u) (updL l 0 (zav os++[(x:Int)])))(hg:W.grownBy W' (v 0).ownBlock):
  W'.cell? ⟨w.heap.size+1+1,0,none⟩=some (v 0)/\W'.frozen? ⟨w.heap.size+1+1,0,none⟩=false/\WbS w D bv (os++[x]) nb k gN (upd v 0 u) (updL l 0 (zav os++[(x:Int)])) (W'.setCell ⟨w.heap.size+1+1,0,none⟩ u):=by
 have o:∀{b:Nat} {cs:Array Value} {e:TypeId},e≠3->W.heap[b]?=some (.cells cs e (0,0))->W'.heap[b]?=some (.cells cs e (0,0)):=fun he hb=>h.fam.others (i:=0) (by omega) hg he hb
 have x4:=o (by decide) h.b4;have hs:∀{b:Nat} {cs:Array Value} {e:TypeId},b≠w.heap.size+1+1->W'.heap[b]?=some (.cells cs e (0,0))->(W'.setCell ⟨w.heap.size+1+1,0,none⟩ u).heap[b]?=some (.cells cs e (0,0)):=fun hb h=>(zuS _ _ _ _ (by exact hb)).trans h
 refine⟨by rw[zuO _ _ _ _ _ _ x4];rfl,zuQ _ _ 0 _ _ x4,hF.other x4 (by decide) (zaX _ _ _ _),by rw[zar];simp[zav],by rw[zaf _ _ (by omega)];exact h.l1,by rw[zaf _ _ (by omega)];exact h.l2,by rw[zaD _ _ (by omega)];exact h.v2,hs (by omega) (o (by decide) h.bD),hs (by omega) (o (by decide) h.bB),?_,?_,?_⟩
 ·rw[zaH];exact zuT _ _ _ _ _ _ x4
 ·rw[zaD _ _ (by omega)];exact hs (by omega) (o (by decide) h.b5)
 ·exact(h.be.grown hg h.be.size (fun b hb=>by have:=(zaR (h.fam.own 0 (by omega)) hb).1;omega)).setCell (p:=⟨w.heap.size+1+1,0,none⟩) (by show w.heap.size<=w.heap.size+1+1;omega) u
theorem WbS.put(h:WbS w D bv os nb k gN v l W){g5 m5 c5 j:Nat}(hv:v 1=.slice (some ⟨g5,0,none⟩) m5 c5)(hm:nb.length=m5)(y:Int):WbS w D bv os (nb.set j y) k gN v (updL l 1 (nb.set j y)) (W.setCell ⟨g5,j,none⟩ (.int .i64 y)):=by
 have hF:=h.fam.put (i:=1) (by omega) hv (by rw[h.l1];exact hm) j y;rw[h.l1] at hF;obtain⟨cs,hc⟩:=za9 (h.fam.own 1 (by omega)) (b:=g5) (by rw[hv];rfl);have hs:∀{b:Nat} {cs:Array Value} {e:TypeId},e≠3->W.heap[b]?=some (.cells cs e (0,0))->(W.setCell ⟨g5,j,none⟩ (.int .i64 y)).heap[b]?=some (.cells cs e (0,0)):=fun he hb=>(zuS _ _ _ _ (fun e2=>by
  have e3:_=g5:=e2;rw[e3,hc] at hb;exact he (zap hb).symm)).trans hb
 have hge:=(zaR (h.fam.own 1 (by omega)) (b:=g5) (by rw[hv];rfl)).1;exact⟨hF,by rw[zaf _ _ (by omega)];exact h.l0,zar _ _ _,by rw[zaf _ _ (by omega)];exact h.l2,h.v2,hs (by decide) h.bD,hs (by decide) h.bB,hs (by decide) h.b4,hs (by decide) h.b5,h.be.setCell (p:=⟨g5,j,none⟩) (by show w.heap.size<=g5;omega) _⟩
theorem WbS.turn(h:WbS w D bv os nb k gN v l W)(k':Nat):WbS w D bv os nb k' W.heap.size (fun i=>if i=2 then .slice (some ⟨W.heap.size,0,none⟩) 1 1 else v i) (fun i=>if i=2 then [(k':Int)] else l i) (W.alloc (.cells #[.int .i64 (k':Int)] 3)):=by
 have hb:Below W.heap.size W (W.alloc (.cells #[.int .i64 (k':Int)] 3)):=(Below.refl _ _).alloc (zuz _) _;have h':=h.on hb;have hsz:=h.size;have hnew:=ziM (B:=w.heap.size+3+1) (zuR W (.cells #[.int .i64 (k':Int)] 3)) (by omega);refine⟨⟨fun i hi=>?_,fun i j hi hj hne b hb=>?_⟩,h.l0,h.l1,rfl,rfl,h'.bD,h'.bB,h'.b4,h'.b5,h'.be⟩
 ·by_cases e:i=2
  ·simp only[zuV e];exact hnew
  ·simp only[zuU e];exact h'.fam.own i hi
 ·by_cases e:i=2
  ·simp only[zuV e] at hb;simp[Value.ownBlock] at hb;have e2:¬j=2:=by omega
   simp only[zuU e2];intro hc;have:=(zaR (h.fam.own j hj) hc).2;omega
  ·simp only[zuU e] at hb
   by_cases e2:j=2
   ·simp only[zuV e2];intro hc;simp[Value.ownBlock] at hc;have:=(zaR (h.fam.own i hi) hb).2;omega
   ·simp only[zuU e2];exact h.fam.apart i j hi hj hne b hb
end
theorem Fam.one{gt n:Nat}{W:World}{v:Nat->Value}{l:Nat->List Int}(h:Fam gt n W v l)(hB:gt+1<=W.heap.size)(x:Int):Fam gt (n+1) (W.alloc (.cells #[.int .i64 x] 3)) (upd v n (.slice (some ⟨W.heap.size,0,none⟩) 1 1)) (updL l n [x]):=by
 have hb:Below W.heap.size W (W.alloc (.cells #[.int .i64 x] 3)):=(Below.refl _ _).alloc (zuz _) _;refine⟨fun i hi=>?_,fun i j hi hj hne b hbi=>?_⟩
 ·by_cases e:i=n
  ·subst e;rw[zaH,zar];exact ziM (zuR _ _) hB
  ·rw[zaD _ _ e,zaf _ _ e];exact(h.below hb).own i (by omega)
 ·by_cases e:i=n
  ·subst e;rw[zaH] at hbi;simp[Value.ownBlock] at hbi;rw[zaD _ _ (Ne.symm hne)];intro hc;have:=(zaR (h.own j (by omega)) hc).2;omega
  ·rw[zaD _ _ e] at hbi
   by_cases e2:j=n
   ·subst e2;rw[zaH];intro hc;simp[Value.ownBlock] at hc;have:=(zaR (h.own i (by omega)) hbi).2;omega
   ·rw[zaD _ _ e2];exact h.apart i j (by omega) (by omega) hne b hbi
theorem zpi(x:Int)(n:Nat):repL x n n=(List.replicate n x).map intV:=by
 apply ztL
 intro i
 by_cases h:i<n
 ·rw[zc1 x h];simp[h,intV]
 ·rw[ztU (by rw[zc2];omega),ztU (by simp;omega)]
theorem WbS.start{w w3:World}{D:Array Value}{bv:Value}{n g5 x0:Nat}(nq:Nat)(hD:w3.heap[w.heap.size]?=some (.cells D 26 (0,0)))(hB:w3.heap[w.heap.size+1]?=some (.cells #[bv] 24 (0,0)))(h4:w3.heap[w.heap.size+1+1]?=some (.cells #[.slice none 0 0] 24 (0,0)))(h5:w3.heap[w.heap.size+1+1+1]?=some (.cells #[.slice none 0 0] 24 (0,0)))
  (hr:w3.heap[g5]?=some (.cells (repL (-1) n n).toArray 3 (0,0))) (hg5:w.heap.size+4<=g5) (hbe:Below w.heap.size w w3) (hn:n<=4000):
  ∃v l,v 1=.slice (some ⟨g5,0,none⟩) n n/\WbS w D bv [0] ((List.replicate n (-1:Int)).set x0 0) 0 (w3.heap.size+1) v l ((((((w3.setCell ⟨w.heap.size+1+1+1,0,none⟩ (.slice (some ⟨g5,0,none⟩) n n)).alloc (.cells #[.int .i64 0] 3)).setCell ⟨w.heap.size+1+1,0,none⟩ (.slice (some ⟨w3.heap.size,0,none⟩) 1 1)).drewN nq).setCell ⟨g5,x0,none⟩ (.int .i64 0)).alloc (.cells #[.int .i64 0] 3)):=by
 have hl5:=zae hr;have hF0:Fam (w.heap.size+3) 1 w3 (fun _=>.slice (some ⟨g5,0,none⟩) n n) (fun _=>List.replicate n (-1:Int)):=by
  refine⟨fun i hi=>?_,fun i j hi hj hne=>by omega⟩;unfold Owns;rw[<-zpi,zt6];exact⟨by rw[zc2];omega,.inr ⟨g5,n,_,rfl,by omega,hr,zuz _,by unfold maxLen;omega,by simp[zc2],by rw[zur (by simp[zc2])]⟩⟩
 have hF1:=hF0.other h5 (by decide) (zaX w3 (w.heap.size+1+1+1) 0 (.slice (some ⟨g5,0,none⟩) n n));have h51:=zuT w3 (w.heap.size+1+1+1) 0 _ _ (.slice (some ⟨g5,0,none⟩) n n) h5;have o1:∀{b:Nat} {ob:Obj},b≠w.heap.size+1+1+1->w3.heap[b]?=some ob->(w3.setCell ⟨w.heap.size+1+1+1,0,none⟩ (.slice (some ⟨g5,0,none⟩) n n)).heap[b]?=some ob:=fun hb h=>(zuS _ _ _ _ (by exact hb)).trans h
 have h41:=o1 (by omega) h4;have hD1:=o1 (by omega) hD;have hB1:=o1 (by omega) hB;have e1:(w3.setCell ⟨w.heap.size+1+1+1,0,none⟩ (.slice (some ⟨g5,0,none⟩) n n)).heap.size=w3.heap.size:=by simp[World.setCell]
 have hb1:Below w.heap.size w (w3.setCell ⟨w.heap.size+1+1+1,0,none⟩ (.slice (some ⟨g5,0,none⟩) n n)):=hbe.setCell (p:=⟨w.heap.size+1+1+1,0,none⟩) (by show w.heap.size<=w.heap.size+1+1+1;omega) _;generalize w3.setCell ⟨w.heap.size+1+1+1,0,none⟩ (.slice (some ⟨g5,0,none⟩) n n)=Wa at *;have bb:Below Wa.heap.size Wa (Wa.alloc (.cells #[.int .i64 0] 3)):=(Below.refl _ _).alloc (zuz _) _;have hF2:=hF1.one (by omega) 0;have e1b:(Wa.alloc (.cells #[.int .i64 0] 3)).heap.size=w3.heap.size+1:=by simp[e1]
 have h41b:=zab h41 bb;have h51b:=zab h51 bb;have hD1b:=zab hD1 bb;have hB1b:=zab hB1 bb;have hb1b:=hb1.trans (bb.mono hb1.size);rw[e1] at hF2;generalize Wa.alloc (.cells #[.int .i64 0] 3)=Wb at *;have hF3:=hF2.other h41b (by decide) (zaX Wb (w.heap.size+1+1) 0 (.slice (some ⟨w3.heap.size,0,none⟩) 1 1));have h42:=zuT Wb (w.heap.size+1+1) 0 _ _ (.slice (some ⟨w3.heap.size,0,none⟩) 1 1) h41b;have o2:∀{b:Nat} {ob:Obj},b≠w.heap.size+1+1->Wb.heap[b]?=some ob->(Wb.setCell ⟨w.heap.size+1+1,0,none⟩ (.slice (some ⟨w3.heap.size,0,none⟩) 1 1)).heap[b]?=some ob:=fun hb h=>(zuS _ _ _ _ (by exact hb)).trans h
 have h52:=o2 (by omega) h51b;have hD2:=o2 (by omega) hD1b;have hB2:=o2 (by omega) hB1b;have e2:(Wb.setCell ⟨w.heap.size+1+1,0,none⟩ (.slice (some ⟨w3.heap.size,0,none⟩) 1 1)).heap.size=w3.heap.size+1:=by simp[World.setCell,e1b]
 have hb2:Below w.heap.size w (Wb.setCell ⟨w.heap.size+1+1,0,none⟩ (.slice (some ⟨w3.heap.size,0,none⟩) 1 1)):=hb1b.setCell (p:=⟨w.heap.size+1+1,0,none⟩) (by show w.heap.size<=w.heap.size+1+1;omega) _;generalize Wb.setCell ⟨w.heap.size+1+1,0,none⟩ (.slice (some ⟨w3.heap.size,0,none⟩) 1 1)=Wx at *;have bb2:Below Wx.heap.size Wx (Wx.drewN nq):=below_drewN (Below.refl _ _) nq;have hF4:=hF3.below bb2;have e3:(Wx.drewN nq).heap.size=w3.heap.size+1:=e2;have h53:=zab h52 bb2;have hD3:=zab hD2 bb2;have hB3:=zab hB2 bb2;have h43:=zab h42 bb2;have hb3:=hb2.trans (bb2.mono hb2.size);generalize Wx.drewN nq=Wc at *;have hF5:=hF4.put (i:=0) (by omega) (g:=g5) (m:=n) (cap:=n) (by rw[zaD _ _ (by omega)]) (by rw[zaf _ _ (by omega)];simp) x0 0;obtain⟨cs,hc5⟩:=za9 (hF4.own 0 (by omega)) (b:=g5) (by rw[zaD _ _ (by omega)];rfl);have o3:∀{b:Nat} {ob:Obj},b≠g5->Wc.heap[b]?=some ob->(Wc.setCell ⟨g5,x0,none⟩ (.int .i64 0)).heap[b]?=some ob:=fun hb h=>(zuS _ _ _ _ (by exact hb)).trans h
 have e4:(Wc.setCell ⟨g5,x0,none⟩ (.int .i64 0)).heap.size=w3.heap.size+1:=by simp[World.setCell,e3]
 have hb4:Below w.heap.size w (Wc.setCell ⟨g5,x0,none⟩ (.int .i64 0)):=hb3.setCell (p:=⟨g5,x0,none⟩) (by show w.heap.size<=g5;omega) _;have h54:=o3 (by omega) h53;have hD4:=o3 (by omega) hD3;have hB4:=o3 (by omega) hB3;have h44:=o3 (by omega) h43;generalize Wc.setCell ⟨g5,x0,none⟩ (.int .i64 0)=Wd at *;have hF6:=hF5.one (by omega) 0;have bb3:Below Wd.heap.size Wd (Wd.alloc (.cells #[.int .i64 0] 3)):=(Below.refl _ _).alloc (zuz _) _;have hF7:=hF6.pick (m:=3) (fun i=>if i=0 then 1 else if i=1 then 0 else 2) (fun i hi=>by split<;>first|omega|(split<;>omega)) (fun i j hi hj hne=>by
  have:i=0\/i=1\/i=2:=by omega
  have:j=0\/j=1\/j=2:=by omega
  rcases ‹i=0\/i=1\/i=2› with rfl|rfl|rfl<;>rcases ‹j=0\/j=1\/j=2› with rfl|rfl|rfl<;>first|omega|decide)
 refine⟨_,_,?_,hF7,?_,?_,?_,?_,zab hD4 bb3,zab hB4 bb3,?_,?_,hb4.trans (bb3.mono hb4.size)⟩
 ·rfl
 ·rfl
 ·show updL (updL _ _ _) 2 _ 0=_;rw[zaf _ _ (by omega),zar,zaf _ _ (by omega)]
 ·rfl
 ·show Value.slice (some ⟨Wd.heap.size,0,none⟩) 1 1=_;rw[e4]
 ·exact zab h44 bb3
 ·exact zab h54 bb3
end
variable {W W':World}{gt n bb bo bc:Nat}{v:Nat -> Value}{l:Nat -> List Int}
attribute [local go_sem] Oper.semAt_some
theorem zdo(S:Fam gt n W v l)(i:Nat)(hi:i<n)(xs:List Int)(hxs:l i=xs)(m:Nat)(hn:xs.length=m)(vi:Value)(hv:v i=vi)(y:Int)(hl:m<=2000000)(hB:gt+1<=W.heap.size)(ty:TypeId):
  ∃g cap W',(appD #[24,24] ty #[vi,.slice (some ⟨W.heap.size,0,none⟩) 1 1]).run Tryz.prog (W.alloc (.cells #[.int .i64 y] 3))=.ok (.slice (some ⟨g,0,none⟩) (m+1) cap) W'/\Fam gt n W' (upd v i (.slice (some ⟨g,0,none⟩) (m+1) cap)) (updL l i (xs++[y]))/\W.grownBy W' (v i).ownBlock:=by
 subst hn;subst hxs;subst hv;obtain⟨i0,hi0,hz0,hz1,hz2⟩:=info_parts Tryz.infoInt;have hb:Below W.heap.size W (W.alloc (.cells #[.int .i64 y] 3)):=(Below.refl _ _).alloc (zuz _) _;have own:(W.alloc (.cells #[.int .i64 y] 3)).ownsRow (gt+1) 3 1 (v i) (l i).length ((l i).map intV):=(S.below hb).own i hi;have hsz:(W.alloc (.cells #[.int .i64 y] 3)).heap.size=W.heap.size+1:=by simp
 obtain⟨g,cap,W',hr,own',grow',at',_⟩:=run_append_lies (P:=Tryz.prog) (W.alloc (.cells #[.int .i64 y] 3)) 24 ty (gt+1) 3 i0 _ 1 8 Tryz.underlying24 hi0 hz0 hz1 hz2 rfl (by omega) (v i) (l i).length ((l i).map intV) own ⟨W.heap.size,0,none⟩ 1 1 [.int .i64 y] rfl (ziK (zuR _ _)) (by intro u hu;simp at hu;subst hu;rfl) (by omega) (by unfold maxLen;omega) (by omega) (by omega) (W.heap.size+1) hsz;refine⟨g,cap,W',hr,Fam.append (S.below hb) hi own' grow' (at'.imp id (fun h=>by omega)),?_⟩;exact⟨grow'.os.trans hb.os,grow'.tape.trans hb.tape,grow'.output.trans hb.output,zuA hb.size grow'.size,fun k hk hne=>(grow'.block k (by have:=hb.size;omega) hne).trans (hb.block k hk)⟩
theorem zbg(h:Below W.heap.size W W'):KeepsOthers W W':=⟨h.size,fun k _ hk _=>(h.block k (ztp.1 hk).1).trans hk⟩
theorem zdd(h:Fam gt n W v l){i:Nat}(hi:i<n)(hg:W.grownBy W' (v i).ownBlock):KeepsOthers W W':=KeepsOthers.of_grownBy hg fun _ _ e ho=>by
 obtain⟨cs,hc⟩:=za9 (h.own i hi) e;rw[hc] at ho;rw[<-Option.some.inj ho]
 rfl
attribute [local go_sem ↓] zdU
structure WbI(w:World)(D:Array Value)(bv:Value)(d:DfaD)(o:List Nat)(k gN:Nat)(Ds:List Nat)(c:Nat)(nb:List Int)(v:Nat->Value)(l:Nat->List Int)(W:World):Prop where
 st:WbS w D bv (zat (stN d) (anN d) k c) nb k gN v l W
 wk:WkI d o (zat (stN d) (anN d) k c) nb
 mr:∀x∈Ds,W.heap[x]?=some (.deferred (some []))
theorem WbI.own(w:World)(D:Array Value)(bv:Value)(d:DfaD)(o:List Nat)(k gN:Nat)(Ds:List Nat)(B:Nat)(hB:∀x∈Ds,x<B)(hw:w.heap.size<=B):OwnFrom B (fun c W=>∃nb v l,WbI w D bv d o k gN Ds c nb v l W):=by
 rintro c W W' row ⟨nb,v,l,h⟩ hg hr;have hc:∀(b:Nat) (cs:Array Value) (t:TypeId),W.heap[b]?=some (.cells cs t (0,0))->W'.heap[b]?=some (.cells cs t (0,0)):=fun b cs t hb=>(hg.block b (zae hb) (fun e=>by obtain⟨_,o,h1,h2⟩:=hr b e.symm;rw[hb] at h1;cases h1;cases h2)).trans hb
 refine⟨nb,v,l,h.st.cells hc (h.st.be.grown hg h.st.be.size (fun q e=>by have:=(hr q e).1;omega)),h.wk,fun x hx=>?_⟩;exact(hg.block x (ztp.1 (h.mr x hx)).1 (fun e=>by have:=(hr x e.symm).1;have:=hB x hx;omega)).trans (h.mr x hx)
structure WbL(w:World)(D:Array Value)(bb bo n bc:Nat)(k gN g0 n0 c0 g5 c5:Nat)(W:World):Prop where
 zD:W.heap[w.heap.size]?=some (.cells D 26 (0,0))
 zB:W.cell? ⟨w.heap.size+1,0,none⟩=some (.slice (some ⟨bb,bo,none⟩) n bc)
 z4:W.cell? ⟨w.heap.size+1+1,0,none⟩=some (.slice (some ⟨g0,0,none⟩) n0 c0)
 f4:W.frozen? ⟨w.heap.size+1+1,0,none⟩=false
 z5:W.cell? ⟨w.heap.size+1+1+1,0,none⟩=some (.slice (some ⟨g5,0,none⟩) n c5)
 f5:W.frozen? ⟨w.heap.size+1+1+1,0,none⟩=false
 zN:W.cell? ⟨gN,0,none⟩=some (.int .i64 (k:Int))
theorem WbS.look{w:World}{D:Array Value}{os:List Nat}{nb:List Int}{k gN:Nat}(h:WbS w D (.slice (some ⟨bb,bo,none⟩) n bc) os nb k gN v l W)(ho:0<os.length)(hn:nb.length=n)(hn0:0<n):
  ∃g0 c0 g5 c5,v 0=.slice (some ⟨g0,0,none⟩) os.length c0/\v 1=.slice (some ⟨g5,0,none⟩) n c5/\WbL w D bb bo n bc k gN g0 os.length c0 g5 c5 W/\(∀j,j<os.length->W.cell? ⟨g0,j,none⟩=some (.int .i64 ((os.getD j 0:Nat):Int)))/\(∀j,j<n->W.cell? ⟨g5,j,none⟩=some (.int .i64 (nb.getD j 0))/\W.frozen? ⟨g5,j,none⟩=false):=by
 obtain⟨g0,c0,e0,hc0⟩:=h.fam.nats (i:=0) (by omega) h.l0 ho;have h1:=h.fam.own 1 (by omega);rw[h.l1] at h1;obtain⟨g5,c5,e5,_,_,hc5⟩:=zbe h1 (by omega);rw[hn] at e5 hc5;obtain⟨cs,hcs⟩:=za9 (h.fam.own 1 (by omega)) (b:=g5) (by rw[e5];rfl);have hw:=h.fam.own 2 (by omega);rw[h.l2] at hw;obtain⟨g,c,e,_,_,hN⟩:=zbe hw (by simp);rw[h.v2] at e;cases e;refine⟨g0,c0,g5,c5,e0,e5,⟨h.bD,by rw[zuO _ _ _ _ _ _ h.bB];rfl,by rw[zuO _ _ _ _ _ _ h.b4,<-e0];rfl,zuQ _ _ 0 _ _ h.b4,by rw[zuO _ _ _ _ _ _ h.b5,<-e5];rfl,zuQ _ _ 0 _ _ h.b5,hN 0 (by simp)⟩,hc0,fun j hj=>⟨hc5 j hj,zuQ _ _ j _ _ hcs⟩⟩
theorem ziY{g:Nat}{x:Value}{t:TypeId}(h:W.heap[g]?=some (.cells #[x] t (0,0))){b:Nat}{ob:Obj}(hb:W.heap[b]?=some ob):(W.setCell ⟨g,0,none⟩ x).heap[b]?=some ob:=by
 by_cases e:b=g
 ·subst e;rw[zuT W b 0 _ _ x h,<-hb,h]
  rfl
 ·exact(zuS _ _ _ _ (by exact e)).trans hb
def WbR(w:World)(d:DfaD)(o:List Nat)(e:Ending)(w':World):Prop:=∃(K g1 c1 g2 c2:Nat) (nb:List Int),zef (stN d) (anN d) K/\(zat (stN d) (anN d) K 0).length=K/\e=.returned (.tuple #[.slice (some ⟨g1,0,none⟩) K c1,.slice (some ⟨g2,0,none⟩) d.tag.length c2])/\Owns w.heap.size w' (.slice (some ⟨g1,0,none⟩) K c1) (zav (zat (stN d) (anN d) K 0))/\Owns w.heap.size w' (.slice (some ⟨g2,0,none⟩) d.tag.length c2) nb/\WkI d o (zat (stN d) (anN d) K 0) nb/\Below w.heap.size w w'
theorem zsM(cv nv tv ev:Value)(d:DfaD)(o:List Nat)(w:World)(hs:zbU 0 w cv nv tv ev d)(hf:zaE d)
  (hbl:bb<w.heap.size) (hbq:∀i,i<d.tag.length->w.cell? ⟨bb,bo+i,none⟩=some (.int .i64 ((o.getD i 0:Nat):Int))) (ho:∀s,s<d.tag.length->o.getD s 0<d.tag.length) (hA:∀s t,s<d.tag.length->t<d.tag.length->(o.getD s 0=o.getD t 0↔zbc (stN d) (anN d) s t)):
  Calls Tryz.prog 62 #[.agg #[cv,.int .i64 d.width,nv,tv,ev],.slice (some ⟨bb,bo,none⟩) d.tag.length bc] w (WbR w d o):=by
 have hmix:Tryz.prog.follows .mixedOrders=true:=by kernel_rfl
 have hn1:=hf.n1;have hn2:=hf.n2;have Hs:Hid _:=hs;obtain⟨⟨ca,cc,rfl,cm,cx⟩,⟨na,nc,rfl,nm,nx⟩,⟨ta,tc,rfl,tm,tx⟩,⟨ea,ec,rfl,em,ex⟩⟩:=hs;clear cx nx tx ex;have HF:Hid (zaE d):=hf;have Hbq:Hid _:=hbq;have Ho:Hid _:=ho;have HA:Hid _:=hA;clear hf hbq ho hA;obtain⟨W1,hW1⟩:∃W1,((((w.alloc (.cells #[.slice ca d.classes.length cc,.int .i64 d.width,.slice na d.next.length nc,.slice ta d.tag.length tc,.slice ea d.fin.length ec] 26)).alloc (.cells #[.slice (some ⟨bb,bo,none⟩) d.tag.length bc] 24)).alloc (.cells #[.slice none 0 0] 24)).alloc (.cells #[.slice none 0 0] 24))=W1:=⟨_,rfl⟩;have hs1:W1.heap.size=w.heap.size+4:=by rw[<-hW1];simp
 have hb1:Below w.heap.size w W1:=by rw[<-hW1];exact((((Below.refl _ _).alloc (zuz _) _).alloc (by simp) _).alloc (by simp;omega) _).alloc (by simp;omega) _
 have xD:W1.heap[w.heap.size]?=some (.cells #[.slice ca d.classes.length cc,.int .i64 d.width,.slice na d.next.length nc,.slice ta d.tag.length tc,.slice ea d.fin.length ec] 26 (0,0)):=by
  rw[<-hW1,Below.heap_alloc _ _ _ (by simp;omega),Below.heap_alloc _ _ _ (by simp;omega),Below.heap_alloc _ _ _ (by simp)];exact zuR _ _
 have xB:W1.heap[w.heap.size+1]?=some (.cells #[.slice (some ⟨bb,bo,none⟩) d.tag.length bc] 24 (0,0)):=by
  rw[<-hW1,Below.heap_alloc _ _ _ (by simp),Below.heap_alloc _ _ _ (by simp)];have:=zuR (w.alloc (.cells #[.slice ca d.classes.length cc,.int .i64 d.width,.slice na d.next.length nc,.slice ta d.tag.length tc,.slice ea d.fin.length ec] 26)) (.cells #[.slice (some ⟨bb,bo,none⟩) d.tag.length bc] 24)
  simpa using this
 have x4:W1.heap[w.heap.size+1+1]?=some (.cells #[.slice none 0 0] 24 (0,0)):=by
  rw[<-hW1,Below.heap_alloc _ _ _ (by simp)];have:=zuR ((w.alloc (.cells #[.slice ca d.classes.length cc,.int .i64 d.width,.slice na d.next.length nc,.slice ta d.tag.length tc,.slice ea d.fin.length ec] 26)).alloc (.cells #[.slice (some ⟨bb,bo,none⟩) d.tag.length bc] 24)) (.cells #[.slice none 0 0] 24)
  simpa using this
 have x5:W1.heap[w.heap.size+1+1+1]?=some (.cells #[.slice none 0 0] 24 (0,0)):=by
  rw[<-hW1];have:=zuR (((w.alloc (.cells #[.slice ca d.classes.length cc,.int .i64 d.width,.slice na d.next.length nc,.slice ta d.tag.length tc,.slice ea d.fin.length ec] 26)).alloc (.cells #[.slice (some ⟨bb,bo,none⟩) d.tag.length bc] 24)).alloc (.cells #[.slice none 0 0] 24)) (.cells #[.slice none 0 0] 24)
  simpa using this
 obtain⟨W2,hW2⟩:∃W2,W1.alloc (.cells #[.int .i64 (-1)] 3)=W2:=⟨_,rfl⟩;have hb2:Below W1.heap.size W1 W2:=by rw[<-hW2];exact(Below.refl _ _).alloc (zuz _) _
 have hs2:W2.heap.size=w.heap.size+5:=by rw[<-hW2];simp[hs1]
 have xm:W2.heap[w.heap.size+4]?=some (.cells #[.int .i64 (-1)] 3 (0,0)):=by rw[<-hW2,<-hs1];exact zuR _ _
 have hrep:=zpl (-1) (w.heap.size+4) d.tag.length W2 (by rw[zuO _ _ _ _ _ _ xm];rfl) (by omega) (by omega) (by omega);obtain⟨q0,q1,q2,q3,q4⟩:=zaq (zab xD hb2);have HXD:Hid _:=zab xD hb2;have HXB:Hid _:=zab xB hb2;have HX4:Hid _:=zab x4 hb2;have HX5:Hid _:=zab x5 hb2;have HB2:Hid (Below w.heap.size w W2):=hb1.trans (hb2.mono hb1.size);have Hs1:Hid _:=hs1;have Hs2:Hid _:=hs2;clear xD xB x4 x5 hb2 xm hb1 hs2;refine(callsIn_wide (n:=5)).1 ?_;refine callsIn_of_wp_marks Tryz.func62 rfl trivial ?_ rfl;refine wpIn_wide.2 ?_;simp only[Tryz.ntmps62,zuo,zt2,zt4,Nat.reduceAdd,Nat.reduceSub,ztr,zts,zum,ztE,zuj,ztF]
 go_wp2_with fail
 refine hrep.mono ?_;rintro e w3 ⟨rfl,hr3,hb3⟩;have B0:=Hbq.out 0 (by omega);have hB3:Below w.heap.size w w3:=HB2.out.trans (hb3.mono HB2.out.size);have cb0:∀W,Below w.heap.size w W->W.cell? ⟨bb,bo,none⟩=some (.int .i64 ((o.getD 0 0:Nat):Int)):=fun W hW=>(hW.cell (p:=⟨bb,bo,none⟩) hbl).trans B0
 have ho0:=Ho.out 0 (by omega);have hg5:w.heap.size+4<=W2.heap.size:=by have:=Hs2.out;omega
 have HST:Hid _:=fun nq=>WbS.start (x0:=o.getD 0 0) nq (zab HXD.out hb3) (zab HXB.out hb3) (zab HX4.out hb3) (zab HX5.out hb3) hr3 hg5 hB3 (by omega)
 have hgl:=zae hr3;obtain⟨W4,hW4⟩:∃W4,w3.setCell ⟨w.heap.size+1+1+1,0,none⟩ (.slice (some ⟨W2.heap.size,0,none⟩) d.tag.length d.tag.length)=W4:=⟨_,rfl⟩;obtain⟨W5,hW5⟩:∃W5,W4.alloc (.cells #[.int .i64 0] 3)=W5:=⟨_,rfl⟩;obtain⟨W6,hW6⟩:∃W6,W5.setCell ⟨w.heap.size+1+1,0,none⟩ (.slice (some ⟨w3.heap.size,0,none⟩) 1 1)=W6:=⟨_,rfl⟩;have s4:W4.heap.size=w3.heap.size:=by rw[<-hW4];simp[World.setCell]
 have o4:∀{b:Nat} {ob:Obj},b≠w.heap.size+1+1+1->w3.heap[b]?=some ob->W4.heap[b]?=some ob:=fun hb h=>by rw[<-hW4];exact(zuS _ _ _ _ (by exact hb)).trans h
 have x54:=zuT w3 (w.heap.size+1+1+1) 0 _ _ (.slice (some ⟨W2.heap.size,0,none⟩) d.tag.length d.tag.length) (zab HX5.out hb3);rw[hW4] at x54;have bb5:Below W4.heap.size W4 W5:=by rw[<-hW5];exact(Below.refl _ _).alloc (zuz _) _
 have x45:=zab (o4 (by omega) (zab HX4.out hb3)) bb5;have o6:∀{b:Nat} {cs:Array Value} {e:TypeId},b≠w.heap.size+1+1->W4.heap[b]?=some (.cells cs e (0,0))->W6.heap[b]?=some (.cells cs e (0,0)):=fun hb h=>by rw[<-hW6];exact(zuS _ _ _ _ (by exact hb)).trans (zab h bb5)
 have x56:=o6 (by omega) x54;have xB6:=o6 (by omega) (o4 (by omega) (zab HXB.out hb3));have xr6:=o6 (by omega) (o4 (by omega) hr3);have y5:w3.cell? ⟨w.heap.size+1+1+1,0,none⟩=some (.slice none 0 0):=by rw[zuO _ _ _ _ _ _ (zab HX5.out hb3)];rfl
 have f5:=zuQ _ _ 0 _ _ (zab HX5.out hb3);have y4:W5.cell? ⟨w.heap.size+1+1,0,none⟩=some (.slice none 0 0):=by rw[zuO _ _ _ _ _ _ x45];rfl
 have f4:=zuQ _ _ 0 _ _ x45;have y56:W6.cell? ⟨w.heap.size+1+1+1,0,none⟩=some (.slice (some ⟨W2.heap.size,0,none⟩) d.tag.length d.tag.length):=by rw[zuO _ _ _ _ _ _ x56];rfl
 have yB6:W6.cell? ⟨w.heap.size+1,0,none⟩=some (.slice (some ⟨bb,bo,none⟩) d.tag.length bc):=by rw[zuO _ _ _ _ _ _ xB6];rfl
 have yr6:W6.cell? ⟨W2.heap.size,o.getD 0 0,none⟩=some (.int .i64 (-1)):=by rw[zuO _ _ _ _ _ _ xr6,ztZ,zc1 _ ho0,zuV ho0]
 have fr6:=zuQ _ _ (o.getD 0 0) _ _ xr6;have hB6:Below w.heap.size w W6:=by
  have h4:Below w.heap.size w W4:=by rw[<-hW4];exact hB3.setCell (p:=⟨w.heap.size+1+1+1,0,none⟩) (by show w.heap.size<=w.heap.size+1+1+1;omega) _
  have h5:=h4.trans (bb5.mono h4.size);rw[<-hW6];exact h5.setCell (p:=⟨w.heap.size+1+1,0,none⟩) (by show w.heap.size<=w.heap.size+1+1;omega) _
 have yb6:=cb0 W6 hB6;have s6:W6.heap.size=w3.heap.size+1:=by rw[<-hW6,<-hW5];simp[World.setCell,s4]
 rw[hW4,hW5,hW6] at HST;have hi1:((o.getD 0 0:Nat):Int)<(d.tag.length:Int):=by omega
 have hi0:(0:Int)<(d.tag.length:Int):=by omega
 have Hs6:Hid _:=s6;clear hrep q0 q1 q2 q3 q4 hr3 hb3 cb0 HXD HXB HX4 HX5 hW1 hW2 hs1 B0 x54 x45 x56 xB6 xr6 bb5 hB6 s6 o6 o4;generalize hx0:o.getD 0 0=x0 at *;go_wp2;refine zdk 5 hmix (by kernel_rfl) rfl rfl rfl ?_;intro os hos;simp only[zus,zuu] at hos;subst hos
 repeat (go_big_quiet_step (fail))
 refine wpQuiet_nil ?_;intro w' hw' K hK;obtain⟨nq,rfl⟩:=hw'
 first|go_big_move|go_big_op
 refine hK _ _ ?_;clear hK K;obtain⟨v,l,hv1,hST⟩:=HST.out nq;have HST2:Hid (WbI w #[.slice ca d.classes.length cc,.int .i64 d.width,.slice na d.next.length nc,.slice ta d.tag.length tc,.slice ea d.fin.length ec] (.slice (some ⟨bb,bo,none⟩) d.tag.length bc) d o 0 (w3.heap.size+1) [] 0 ((List.replicate d.tag.length (-1:Int)).set x0 0) v l _):=⟨by rw[zcD];exact hST,by rw[zcD,<-hx0];exact WkI.start (by omega) Ho.out HA.out,fun x hx=>by cases hx⟩;clear HST hST yr6 fr6 y56 yB6 yb6 y4 f4 y5 f5 hW4 hW5 hW6;go_wp2;refine wp_loop_ghost_k (fun q a W=>∃(k gN:Nat) (nb:List Int) (v:Nat->Value) (l:Nat->List Int) (Ds:List Nat) (u7 u8 u9 u10 u11 u12 u13 u14 u15 u16 u17 u18 u19 u20 u21 u22 u23 u24 u25 u26 u27 u28 u29 u30 u31 u32 u33 u34 u35 u36 u37 u38 u39 u40 u41 u42 u43 u44 u45 u46 u47 u48 u49 u50 u51 u52 u53 u54:Value),q=d.tag.length-k/\k<=(zat (stN d) (anN d) k 0).length/\zef (stN d) (anN d) k/\Hid (WbI w #[.slice ca d.classes.length cc,.int .i64 d.width,.slice na d.next.length nc,.slice ta d.tag.length tc,.slice ea d.fin.length ec] (.slice (some ⟨bb,bo,none⟩) d.tag.length bc) d o k gN Ds 0 nb v l W)/\Hid (Ds.Nodup/\∀x∈Ds,w.heap.size<=x)/\a={tmps:=#[.agg #[.slice ca d.classes.length cc,.int .i64 d.width,.slice na d.next.length nc,.slice ta d.tag.length tc,.slice ea d.fin.length ec],.slice (some ⟨bb,bo,none⟩) d.tag.length bc,.pointer (some ⟨w.heap.size,0,none⟩),.pointer (some ⟨w.heap.size+1,0,none⟩),.pointer (some ⟨w.heap.size+1+1,0,none⟩),.pointer (some ⟨w.heap.size+1+1+1,0,none⟩),.pointer (some ⟨gN,0,none⟩),u7,u8,u9,u10,u11,u12,u13,u14,u15,u16,u17,u18,u19,u20,u21,u22,u23,u24,u25,u26,u27,u28,u29,u30,u31,u32,u33,u34,u35,u36,u37,u38,u39,u40,u41,u42,u43,u44,u45,u46,u47,u48,u49,u50,u51,u52,u53,u54,undef,undef],defers:=Ds.map markD}) d.tag.length ?start ?round
 case start=>exact⟨0,_,_,v,l,[],_,_,_,_,_,_,_,_,_,_,_,_,_,_,_,_,_,_,_,_,_,_,_,_,_,_,_,_,_,_,_,_,_,_,_,_,_,_,_,_,_,_,_,_,_,_,_,_,rfl,zuL _,fun _ h=>absurd h (zuI _),HST2,⟨List.nodup_nil,fun _ h=>by cases h⟩,by rw[<-Hs6.out];rfl⟩
 case round=>
  rintro q a W ⟨k,gN,nb,v,l,Ds,u7,u8,u9,u10,u11,u12,u13,u14,u15,u16,u17,u18,u19,u20,u21,u22,u23,u24,u25,u26,u27,u28,u29,u30,u31,u32,u33,u34,u35,u36,u37,u38,u39,u40,u41,u42,u43,u44,u45,u46,u47,u48,u49,u50,u51,u52,u53,u54,hq,hkl,hG,HI,HDs,rfl⟩ J K hJ hK;have hlen:=HI.out.wk.len;obtain⟨g0,c0,e0,hc0⟩:=HI.out.st.fam.nats (i:=0) (by omega) HI.out.st.l0 (by have:=(zdj (stN d) (anN d) 0 k (zuL _));obtain⟨t,ht⟩:=this;rw[ht,zcD];simp);have z4:W.cell? ⟨w.heap.size+1+1,0,none⟩=some (.slice (some ⟨g0,0,none⟩) (zat (stN d) (anN d) k 0).length c0):=by rw[zuO _ _ _ _ _ _ HI.out.st.b4,<-e0];rfl
  have f4:=zuQ _ _ 0 _ _ HI.out.st.b4;have f5:=zuQ _ _ 0 _ _ HI.out.st.b5;have zN:W.cell? ⟨gN,0,none⟩=some (.int .i64 (k:Int)):=by
   have hw:=HI.out.st.fam.own 2 (by omega);rw[HI.out.st.l2] at hw;obtain⟨g,c,e,_,_,h⟩:=zbe hw (by simp);rw[HI.out.st.v2] at e;cases e;exact h 0 (by simp)
  have He0:Hid _:=e0;clear e0 hc0
  by_cases hk:k<(zat (stN d) (anN d) k 0).length
  ·have hi1:(k:Int)<((zat (stN d) (anN d) k 0).length:Int):=by omega
   go_wp2
   rename_i K2 hK2
   have HDlt:Hid (∀x∈Ds,x<W.heap.size):=fun x hx=>(ztp.1 (HI.out.mr x hx)).1
   have hWs:=HI.out.st.be.size;refine(wpIn_wide (n:=5)).1 ?_;refine zfr (encs:=zhw) (N:=256) (gf:=63) (I:=fun c W=>∃nb v l,WbI w #[.slice ca d.classes.length cc,.int .i64 d.width,.slice na d.next.length nc,.slice ta d.tag.length tc,.slice ea d.fin.length ec] (.slice (some ⟨bb,bo,none⟩) d.tag.length bc) d o k gN Ds c nb v l W)
    (a₁:=fun c=>{tmps:=#[.agg #[.slice ca d.classes.length cc,.int .i64 d.width,.slice na d.next.length nc,.slice ta d.tag.length tc,.slice ea d.fin.length ec],.slice (some ⟨bb,bo,none⟩) d.tag.length bc,.pointer (some ⟨w.heap.size,0,none⟩),.pointer (some ⟨w.heap.size+1,0,none⟩),.pointer (some ⟨w.heap.size+1+1,0,none⟩),.pointer (some ⟨w.heap.size+1+1+1,0,none⟩),.pointer (some ⟨gN,0,none⟩),.int .i64 (c:Int),u8,u9,u10,u11,u12,u13,u14,u15,u16,u17,u18,u19,.int .i64 (k:Int),.slice (some ⟨g0,0,none⟩) (zat (stN d) (anN d) k 0).length c0,.int .i64 ((zat (stN d) (anN d) k 0).length:Int),.bool true,u24,u25,.int .i64 (c:Int),u27,u28,u29,u30,u31,u32,u33,u34,u35,u36,u37,u38,u39,u40,u41,u42,u43,u44,u45,u46,u47,u48,u49,u50,u51,u52,u53,u54,undef,undef],defers:=[]}) ?h1 ?hg ?eg ?hseq ?hps ?hI ?h0 ?assign ?body ?done
   case h1=>omega
   case hg=>rfl
   case eg=>exact enters_of Tryz.func63 (by kernel_rfl) rfl
   case hseq=>exact zdn 4 (by omega)
   case hps=>exact fun _=>rfl
   case hI=>exact WbI.own w _ _ d o k gN Ds _ HDlt.out hWs
   case h0=>exact⟨nb,v,l,HI.out⟩
   case assign=>
    intro l k W K hK;unfold zhw
    gi_wp2
    exact hK
   case body=>
    clear hJ hK hK2 HI He0 z4 zN f4 f5 hlen HST2;rintro l0 c W5 hl0 ⟨nb,v,l,h⟩ hc;have hk5:k<(zat (stN d) (anN d) k c).length:=zuB hk (zgm _ _ _ (zuL _));obtain⟨hxn,hnew,hold⟩:=h.wk.next HF.out hk5 hc Ho.out HA.out rfl;have hsn:=h.wk.lt _ (za3 hk5);have hlen:=h.wk.len;have Hnew:Hid _:=hnew;have Hold:Hid _:=hold;have Hst:Hid (∀X,Below w.heap.size w X->Calls Tryz.prog 64 #[.agg #[.slice ca d.classes.length cc,.int .i64 d.width,.slice na d.next.length nc,.slice ta d.tag.length tc,.slice ea d.fin.length ec],.int .i64 (((zat (stN d) (anN d) k c).getD k 0:Nat):Int),.int .i64 (c:Int)] X fun e w'=>e=.returned (.int .i64 ((stN d ((zat (stN d) (anN d) k c).getD k 0) c:Nat):Int))/\Below X.heap.size X w'):=fun X hX=>by
     have:=zlH _ _ _ _ d (((zat (stN d) (anN d) k c).getD k 0:Nat):Int) c X (Hs.out.below hX) HF.out (by omega) (by omega) hc;rw[zff HF.out hsn hc] at this;exact this
    have H:Hid _:=h;have hbx:=Ho.out _ hxn;have cb:∀X,Below w.heap.size w X->X.cell? ⟨bb,bo+stN d ((zat (stN d) (anN d) k c).getD k 0) c,none⟩=some (.int .i64 ((o.getD (stN d ((zat (stN d) (anN d) k c).getD k 0) c) 0:Nat):Int)):=fun X hX=>(hX.cell (p:=⟨bb,bo+stN d ((zat (stN d) (anN d) k c).getD k 0) c,none⟩) hbl).trans (Hbq.out _ hxn)
    have Hcb:Hid _:=cb;clear hnew hold h cb;obtain⟨p0,r0,p5,r5,e0,e5,L,hc0,hc5⟩:=H.out.st.look (by omega) H.out.wk.nl (by omega);have He0:Hid _:=e0;have He5:Hid _:=e5;have z0:=hc0 k hk5;have Hnl:Hid _:=H.out.wk.nl;generalize hos:zat (stN d) (anN d) k c=os at *;have hosE:Hid _:=hos;generalize hs0:os.getD k 0=s0 at *;generalize hx:stN d s0 c=x at *;generalize hbo2:o.getD x 0=bx at *;obtain⟨q0,q1,q2,q3,q4⟩:=zaq L.zD;have zB:=L.zB;have z4:=L.z4;have z5:=L.z5;have zN:=L.zN;have hi2:(k:Int)<(os.length:Int):=by omega
    have hBW:=H.out.st.be;have hst:∀X,Below w.heap.size w X->CallsIn (Fence.wide.inRound l0) (5-1-1-1) Tryz.prog 64 #[.agg #[.slice ca d.classes.length cc,.int .i64 d.width,.slice na d.next.length nc,.slice ta d.tag.length tc,.slice ea d.fin.length ec],.int .i64 (s0:Int),.int .i64 (c:Int)] X fun e w'=>e=.returned (.int .i64 (x:Int))/\Below X.heap.size X w':=fun X hX=>CallsIn.inRound l0 (callsIn_wide.2 (Hst.out X hX))
    clear hc0 hc5 L hst e0 e5
    gi_wp2
    rename_i K3 hK3
    refine zbb 6 (fun w'=>∃n,w'=W5.drewN n) hmix ⟨1,rfl⟩ (by rintro ⟨_,_,h⟩;exact h) (by decide) (by kernel_rfl) rfl ?_;intro os hos;simp only[zus,zuu] at hos;subst hos
    repeat (go_big_quiet_step (fail))
    refine wpQuiet_nil ?_;rintro w' ⟨nq,rfl⟩ r hr;simp only[ztI,ztJ] at hr;subst hr
    go_wp2_with (go_at_call 64;refine(Hst.out _ (below_drewN hBW nq)).mono ?_;rintro e w6 ⟨rfl,hb6⟩)
    have hb56:Below W5.heap.size W5 w6:=(below_drewN (Below.refl _ _) nq).trans hb6;have H6:=H.out.st.on hb56;rw[hosE.out] at H6;have hpos:0<os.length:=by omega
    obtain⟨p0',r0',p5',r5',f0,f5,L6,hc60,hc65⟩:=H6.look hpos Hnl.out (by omega);rw[He0.out] at f0;cases f0;rw[He5.out] at f5;cases f5;have zB6:=L6.zB;have z46:=L6.z4;have z56:=L6.z5;have f46:=L6.f4;have zx:=Hcb.out w6 H6.be;obtain⟨zn,fn⟩:=hc65 bx hbx;have hi3:(x:Int)<(d.tag.length:Int):=by omega
    have hi4:(bx:Int)<(d.tag.length:Int):=by omega
    have HK56:Hid (KeepsOthers W5 w6):=zbg hb56;have HH6:Hid _:=H6;clear L6 hc60 hc65 hb56 hb6 H6 q0 q1 q2 q3 q4 zB z4 z5 zN z0;generalize hnx:nb.getD bx 0=nx at *
    by_cases hm1:nx=-1
    ·subst hm1
     gi_wp2
     refine zbb 8 (fun w'=>∃n,w'=w6.drewN n) hmix ⟨1,rfl⟩ (by rintro ⟨_,_,h⟩;exact h) (by decide) (by kernel_rfl) rfl ?_;intro os hos;simp only[zus,zuu] at hos;subst hos
     repeat (go_big_quiet_step (fail))
     refine wpQuiet_nil ?_;rintro w' ⟨nq2,rfl⟩ r hr;simp only[ztI,ztJ] at hr;subst hr;go_wp2
     gi_wp2
     refine zbb 8 (fun w'=>∃n,w'=(w6.drewN nq2).drewN n) hmix ⟨1,rfl⟩ (by rintro ⟨_,_,h⟩;exact h) (by decide) (by kernel_rfl) rfl ?_;intro os hos;simp only[zus,zuu] at hos;subst hos
     repeat (go_big_quiet_step (fail))
     refine wpQuiet_nil ?_;rintro w' ⟨nq3,rfl⟩ r hr;simp only[ztI,ztJ] at hr;subst hr;have hbq:Below w6.heap.size w6 (w6.drewN (nq2+nq3)):=below_drewN (Below.refl _ _) _;have H7:=(HH6.out.on hbq).put He5.out Hnl.out (j:=bx) (os.length:Int);obtain⟨X,hX⟩:∃X,(w6.drewN (nq2+nq3)).setCell ⟨p5,bx,none⟩ (.int .i64 (os.length:Int))=X:=⟨_,rfl⟩;rw[hX] at H7;have HKX:Hid (KeepsOthers W5 X):=by rw[<-hX];exact(HK56.out.trans (zbg hbq)).trans (KeepsOthers.setCell _ _ _)
     obtain⟨p0',r0',p5',r5',f0,f5,L7,_,_⟩:=H7.look hpos (by rw[List.length_set];exact Hnl.out) (by omega);rw[He0.out] at f0;cases f0;rw[He5.out] at f5;cases f5;have z47:=L7.z4;have f47:=L7.f4;obtain⟨g8,c8,W8,hap,hF8,hg8⟩:=zdo H7.fam 0 (by omega) (zav os) H7.l0 os.length (zag _) _ He0.out (x:Int) (by omega) (by have:=H7.size;omega) 24;obtain⟨z48,f48,H8⟩:=H7.app hF8 hg8;rw[He0.out] at z48;have HH8:Hid _:=H8;have HK8:Hid (KeepsOthers W5 (W8.setCell ⟨w.heap.size+1+1,0,none⟩ (.slice (some ⟨g8,0,none⟩) (os.length+1) c8))):=(HKX.out.trans (zdd H7.fam (i:=0) (by omega) hg8)).trans (KeepsOthers.setCell _ _ _);clear H8 hF8 hg8 H7 L7 zB6 z46 z56 f46 zx;go_wp2;clear zn fn
     gi_wp2
     obtain⟨hw1,hw2⟩:=Hnew.out (by simp);refine⟨HK8.out.from _,nb.set bx (os.length:Int),upd v 0 (.slice (some ⟨g8,0,none⟩) (os.length+1) c8),updL (updL l 1 (nb.set bx (os.length:Int))) 0 (zav os++[(x:Int)]),⟨?_,?_,fun y hy=>?_⟩⟩
     ·rw[hw1];exact HH8.out
     ·rw[hw1];exact hw2
     ·exact HK8.out.same _ _ (H.out.mr y hy) rfl
    ·gi_wp2
     refine zbb 8 (fun w'=>∃n,w'=w6.drewN n) hmix ⟨1,rfl⟩ (by rintro ⟨_,_,h⟩;exact h) (by decide) (by kernel_rfl) rfl ?_;intro os hos;simp only[zus,zuu] at hos;subst hos
     repeat (go_big_quiet_step (fail))
     refine wpQuiet_nil ?_;rintro w' ⟨nq2,rfl⟩ r hr;simp only[ztI,ztJ] at hr;subst hr;go_wp2;have hmb:(nx == -1)=false:=by simpa using hm1
     gi_wp2
     have hw1:=Hold.out hm1;have hbq:Below w6.heap.size w6 (w6.drewN nq2):=below_drewN (Below.refl _ _) nq2;refine⟨((HK56.out.trans (zbg hbq)).from _),nb,v,l,⟨?_,?_,fun y hy=>?_⟩⟩
     ·rw[hw1];exact HH6.out.on hbq
     ·rw[hw1,<-hosE.out];exact H.out.wk
     ·exact(HK56.out.trans (zbg hbq)).same _ _ (H.out.mr y hy) rfl
   case done=>
    clear HI He0 z4 zN f4 f5 hlen;rintro D W5 hDe ⟨nb,v,l,H⟩ hD;refine hK2 _ _ ?_;have hWD:w.heap.size<=D:=by omega
    have hnD:D∉Ds:=fun hm=>by have:=HDlt.out D hm;omega
    have hlen2:(zat (stN d) (anN d) k 256).length=(zat (stN d) (anN d) (k+1) 0).length:=by rw[zcS]
    obtain⟨p0,r0,p5,r5,e0,e5,L,_,_⟩:=H.st.look (by have:=zgm (stN d) (anN d) k (zuL 256);omega) H.wk.nl (by omega);have zN:=L.zN;have HH:Hid _:=H;have hn3:=H.wk.len;have HD:Hid _:=hD;have hwl:=zgm (stN d) (anN d) k (zuL 256);have hT:=H.st.turn (k+1);rw[show ((k+1:Nat):Int)=(k:Int)+1 by omega] at hT;have HT:Hid _:=hT;clear hT H L e0 e5 hD hDe;have hal:Below W5.heap.size W5 (W5.alloc (.cells #[.int .i64 ((k:Int)+1)] 3)):=(Below.refl _ _).alloc (zuz _) _;have Hal:Hid _:=hal;clear hal;go_wp2;refine Handed.intro (d.tag.length-(k+1)) (by omega) (hJ _ _ _ ⟨k+1,_,nb,_,_,D::Ds,_,_,_,_,_,_,_,_,_,_,_,_,_,_,_,_,_,_,_,_,_,_,_,_,_,_,_,_,_,_,_,_,_,_,_,_,_,_,_,_,_,_,_,_,_,_,_,_,rfl,by omega,hG.next hk,⟨by rw[zcS];exact HT.out,by rw[zcS];exact HH.out.wk,fun y hy=>?_⟩,⟨zul.2 ⟨hnD,HDs.out.1⟩,fun y hy=>?_⟩,rfl⟩)
    ·have hq:W5.heap[y]?=some (.deferred (some [])):=by
      rcases zud.1 hy with e|e
      ·rw[e];exact HD.out
      ·exact HH.out.mr y e
     exact(Hal.out.block y (ztp.1 hq).1).trans hq
    ·rcases zud.1 hy with e|e
     ·rw[e];exact hWD
     ·exact HDs.out.2 y e
  ·have hi1:¬(k:Int)<((zat (stN d) (anN d) k 0).length:Int):=by omega
   have hkk:(zat (stN d) (anN d) k 0).length=k:=by omega
   obtain⟨p0,r0,p5,r5,e0,e5,L,_,_⟩:=HI.out.st.look (by have:=(zdj (stN d) (anN d) 0 k (zuL _));obtain⟨t,ht⟩:=this;rw[ht,zcD];simp) HI.out.wk.nl (by omega);rw[He0.out] at e0;cases e0;have z5:=L.z5;have He5:Hid _:=e5;have Hkk:Hid _:=hkk;clear L e5 hkk hJ;go_wp2
   go_region
   have hb4:=HI.out.st.b4;rw[He0.out] at hb4;have hb5:=HI.out.st.b5;rw[He5.out] at hb5;have hsame:∀{b:Nat} {ob:Obj},W.heap[b]?=some ob->(((W.setCell ⟨w.heap.size+1+1,0,none⟩ (.slice (some ⟨g0,0,none⟩) (zat (stN d) (anN d) k 0).length c0)).setCell ⟨w.heap.size+1+1+1,0,none⟩ (.slice (some ⟨p5,0,none⟩) d.tag.length r5)).drew).heap[b]?=some ob:=fun h=>ziY (ziY hb4 hb5) (ziY hb4 h)
   have hbe:Below w.heap.size w (((W.setCell ⟨w.heap.size+1+1,0,none⟩ (.slice (some ⟨g0,0,none⟩) (zat (stN d) (anN d) k 0).length c0)).setCell ⟨w.heap.size+1+1+1,0,none⟩ (.slice (some ⟨p5,0,none⟩) d.tag.length r5)).drew):=(((HI.out.st.be.setCell (p:=⟨w.heap.size+1+1,0,none⟩) (by show w.heap.size<=w.heap.size+1+1;omega) _).setCell (p:=⟨w.heap.size+1+1+1,0,none⟩) (by show w.heap.size<=w.heap.size+1+1+1;omega) _)).drew;generalize ((W.setCell ⟨w.heap.size+1+1,0,none⟩ (.slice (some ⟨g0,0,none⟩) (zat (stN d) (anN d) k 0).length c0)).setCell ⟨w.heap.size+1+1+1,0,none⟩ (.slice (some ⟨p5,0,none⟩) d.tag.length r5)).drew=Wf at *;have Hsame:Hid (∀{b:Nat} {ob:Obj},W.heap[b]?=some ob->Wf.heap[b]?=some ob):=hsame;have Hb4:Hid _:=hb4;have Hb5:Hid _:=hb5;have Hbe:Hid _:=hbe;clear hsame hb4 hb5 hbe z4 z5 zN f4 f5;go_wp2;refine zfR Ds Wf HDs.out.1 (fun x hx=>Hsame.out (HI.out.mr x hx)) (fun W' hk1 hk2 hk3 hk4 hk5=>?_);have hcell:∀(b:Nat) (cs:Array Value) (t:TypeId),W.heap[b]?=some (.cells cs t (0,0))->W'.heap[b]?=some (.cells cs t (0,0)):=fun b cs t hb=>by
    have h1:=Hsame.out hb;refine(hk1 b (fun hm=>?_)).trans h1;have h2:=Hsame.out (HI.out.mr b hm);rw[h1] at h2;cases h2
   have hbW:Below w.heap.size w W':=Hbe.out.trans ⟨hk3,hk4,hk5,by omega,fun b hb=>hk1 b (fun hm=>by have:=HDs.out.2 b hm;omega)⟩;have HF2:=HI.out.st.cells hcell hbW;have y4:W'.cell? ⟨w.heap.size+1+1,0,none⟩=some (.slice (some ⟨g0,0,none⟩) (zat (stN d) (anN d) k 0).length c0):=by rw[zuO _ _ _ _ _ _ (hcell _ _ _ Hb4.out)];rfl
   have y5:W'.cell? ⟨w.heap.size+1+1+1,0,none⟩=some (.slice (some ⟨p5,0,none⟩) d.tag.length r5):=by rw[zuO _ _ _ _ _ _ (hcell _ _ _ Hb5.out)];rfl
   have hO0:=HF2.fam.own 0 (by omega);rw[HF2.l0,He0.out] at hO0;have hO1:=HF2.fam.own 1 (by omega);rw[HF2.l1,He5.out] at hO1;refine⟨.tuple #[.slice (some ⟨g0,0,none⟩) (zat (stN d) (anN d) k 0).length c0,.slice (some ⟨p5,0,none⟩) d.tag.length r5],by simp[results,Tryz.results62,go_sem,y4,y5],k,g0,c0,p5,r5,nb,hG,Hkk.out,by rw[Hkk.out],?_,zcO hO1 (by omega),HI.out.wk,hbW⟩;rw[Hkk.out] at hO0;exact zcO hO0 (by omega)
end Go.Proofs.YthddplbodacjgaaGreatDoor
