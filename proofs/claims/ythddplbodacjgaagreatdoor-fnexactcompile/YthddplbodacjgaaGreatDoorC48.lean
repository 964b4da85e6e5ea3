import Derived.Test.YthddplbodacjgaaGreatDoorC40
import Derived.Test.YthddplbodacjgaaGreatDoorC44
import Derived.Test.YthddplbodacjgaaGreatDoorC47
namespace Go.Proofs.YthddplbodacjgaaGreatDoor
set_option maxHeartbeats 4000000
set_option maxRecDepth 100000
open Go.RowKit
section
variable {bs:List BrG}{most K:Nat}
theorem zit{k0:Nat}(h:EndG bs most K)(r:RefG bs most k0):False:=by
 rcases zuC k0 K with q|q
 ·have:=(h.go k0 q).2;have:=r.big;omega
 ·rcases zuC K k0 with q2|q2
  ·have:=(r.go K q2).1;have:=h.len;omega
  ·obtain rfl:K=k0:=by omega
   have:=r.lt;have:=h.len;omega
theorem zoj{K':Nat}(h:EndG bs most K)(h':EndG bs most K'):K=K':=by
 rcases zuD K K' with q|q|q
 ·have:=(h'.go K q).1;have:=h.len;omega
 ·exact q
 ·have:=(h.go K' q).1;have:=h'.len;omega
def CmR(rs:List za0)(most code width:Int)(l:Nat->List Int):Prop:=
 (¬(1<=most/\most<=4000)/\code=1/\width=0/\l=fun _=>[])\/
 ((1<=most/\most<=4000)/\zb5 rs=false/\code=2/\width=0/\l=fun _=>[])\/
 ((1<=most/\most<=4000)/\zb5 rs=true/\(∃k0,RefG (bsR 0 rs) most.toNat k0)/\code=3/\width=0/\l=fun _=>[])\/
 ((1<=most/\most<=4000)/\zb5 rs=true/\∃K,EndG (bsR 0 rs) most.toNat K/\code=0/\width=minW (dfaG (bsR 0 rs) K)/\l=minL (dfaG (bsR 0 rs) K))
theorem zqs(rs:List za0)(most:Int):∃code width l,CmR rs most code width l:=by
 by_cases h:1<=most/\most<=4000
 ·cases hl:zb5 rs
  ·exact⟨2,0,fun _=>[],.inr (.inl ⟨h,hl,rfl,rfl,rfl⟩)⟩
  ·rcases zrj (bsR 0 rs) most.toNat with ⟨K,hK⟩|hr
   ·exact⟨0,minW (dfaG (bsR 0 rs) K),minL (dfaG (bsR 0 rs) K),.inr (.inr (.inr ⟨h,hl,K,hK,rfl,rfl,rfl⟩))⟩
   ·exact⟨3,0,fun _=>[],.inr (.inr (.inl ⟨h,hl,hr,rfl,rfl,rfl⟩))⟩
 ·exact⟨1,0,fun _=>[],.inl ⟨h,rfl,rfl,rfl⟩⟩
theorem zfH(v:Value)(rs:List za0)(most:Int)(w:World)(hs:zaW 0 w v rs)(hw:WOK rs)(h:1<=most/\most<=4000)(hl:zb5 rs=true){k0:Nat}(hk:RefG (bsR 0 rs) most.toNat k0):
  Calls Tryz.prog 5 #[v,.int .i64 most] w (zcA w 3 0 fun _=>[]):=by
 have e:((most.toNat:Nat):Int)=most:=by omega
 have:=zet v rs most.toNat w hs hw (by omega) (by omega) hl (zcA w 3 0 fun _=>[]) (fun _ W hb=>zcA.void hb) (fun K hK=>(zit hK hk).elim);rw[e] at this;exact this
theorem zf7(v:Value)(rs:List za0)(most:Int)(w:World)(hs:zaW 0 w v rs)(hw:WOK rs)(h:1<=most/\most<=4000)(hl:zb5 rs=true){K:Nat}(hK:EndG (bsR 0 rs) most.toNat K):
  Calls Tryz.prog 5 #[v,.int .i64 most] w (zcA w 0 (minW (dfaG (bsR 0 rs) K)) (minL (dfaG (bsR 0 rs) K))):=by
 have e:((most.toNat:Nat):Int)=most:=by omega
 have:=zet v rs most.toNat w hs hw (by omega) (by omega) hl (zcA w 0 (minW (dfaG (bsR 0 rs) K)) (minL (dfaG (bsR 0 rs) K))) (fun⟨k0,hk⟩=>(zit hK hk).elim) (fun K' hK' e W ha=>by rw[zoj hK hK'];exact ha);rw[e] at this;exact this
theorem zhD(v:Value)(rs:List za0)(most code width:Int)(l:Nat->List Int)(w:World)(hs:zaW 0 w v rs)(hsm:zdB rs)(hw:zb5 rs=true->WOK rs)(hr:CmR rs most code width l):
  Calls Tryz.prog 5 #[v,.int .i64 most] w (zcA w code width l):=by
 unfold CmR at hr;rcases hr with hr|hr|hr|hr
 ·have h:=hr.1;rw[hr.2.1,hr.2.2.1,hr.2.2.2];exact zf9 v most w h
 ·rw[hr.2.2.1,hr.2.2.2.1,hr.2.2.2.2];exact zf8 v rs most w hs hsm hr.1 hr.2.1
 ·obtain⟨k0,hk⟩:=hr.2.2.1;rw[hr.2.2.2.1,hr.2.2.2.2.1,hr.2.2.2.2.2];exact zfH v rs most w hs (hw hr.2.1) hr.1 hr.2.1 hk
 ·obtain⟨K,hK,e1,e2,e3⟩:=hr.2.2;rw[e1,e2,e3];exact zf7 v rs most w hs (hw hr.2.1) hr.1 hr.2.1 hK
end
attribute [local go_sem ↓] Go.wp_at_zero Go.wp_at_succ zhN
theorem zop{d:DfaD}(h:zaE d):dfaB d=true:=by
 simp only[dfaB,ztt,zuP,zdb];exact⟨⟨⟨⟨⟨⟨⟨⟨h.cl,h.w1,h.w2⟩,h.n1,h.n2⟩,h.fl⟩,h.nl⟩,h.cs⟩,h.ns⟩,h.ts⟩,h.es⟩
theorem zlY:∀(rs:List za0) (i k:Nat) (b:BrG),(bsR i rs)[k]?=some b->b.rule<i+rs.length
 |[],i,k,b,h=>by simp[bsR] at h
 |r::rs,i,k,b,h=>by
  rw[bsR,ztP] at h;split at h
  ·have hb:=List.mem_of_getElem? h;unfold zec at hb;obtain⟨x,_,rfl⟩:=zug.1 hb;simp
  ·have:=zlY rs (i+1) _ b h;simp only[zt2];omega
theorem zfZ(v:Value)(most:Int)(w:World)(h:¬(1<=most/\most<=4000)):
  Calls Tryz.prog 7 #[v,.int .i64 most] w (zcA w 1 0 (fun _=>[])):=by
 obtain⟨W0,hW0⟩:∃W0,w.alloc (.cells zbf 26)=W0:=⟨_,rfl⟩;have b0:Below w.heap.size w W0:=by rw[<-hW0];exact(Below.refl _ _).alloc (zuz _) _
 have x0:W0.heap[w.heap.size]?=some (.cells zbf 26 (0,0)):=by rw[<-hW0];exact zuR _ _
 obtain⟨p0,p1,p2,p3,p4⟩:=zdR x0;have hvd:=ziW;unfold zbf at hW0 x0;obtain⟨f0,f1,f2,f3,f4⟩:=zcL x0;have HB:=hdn b0;have HW0:=hdn hW0;clear b0 x0 hW0
 by_cases h1:most<1
 ·clear h
  go_enter Tryz.func7,Tryz.ntmps7
  go_upto_region 1 with fail
  rw[HW0.out];clear HW0;go_wp2;refine zuN (v:=.tuple #[.agg #[.slice none 0 0,.int .i64 0,.slice none 0 0,.slice none 0 0,.slice none 0 0],.int .i64 1]) (by simp[results,Tryz.results7,go_sem,p0,p1,p2,p3,p4]) rfl ?_;exact zcA.void (zbn HB.out (zuz _) _ _ _ _ _)
 ·have h2:4000<most:=by omega
  clear h
  go_enter Tryz.func7,Tryz.ntmps7
  go_upto_region 1 with fail
  rw[HW0.out];clear HW0;go_wp2;refine zuN (v:=.tuple #[.agg #[.slice none 0 0,.int .i64 0,.slice none 0 0,.slice none 0 0,.slice none 0 0],.int .i64 1]) (by simp[results,Tryz.results7,go_sem,p0,p1,p2,p3,p4]) rfl ?_;exact zcA.void (zbn HB.out (zuz _) _ _ _ _ _)
theorem zgJ(v:Value)(rs:List za0)(most:Nat)(w:World)(hs:zaW 0 w v rs)(hsm:zdB rs)(hB:zbj w)(hm1:1<=most)(hm4:most<=4000)(R:Ending->World->Prop)
  (hL:zb5 rs=false->∀W,Below w.heap.size w W->R (.returned (.tuple #[.agg zbf,.int .i64 2])) W)
  (hR:zb5 rs=true->(∃k0,RefG (bsR 0 rs) most k0)->∀W,Below w.heap.size w W->R (.returned (.tuple #[.agg zbf,.int .i64 3])) W)
  (hE:zb5 rs=true->∀K,EndG (bsR 0 rs) most K->∀e W,zcA w 0 (minW (dfaG (bsR 0 rs) K)) (minL (dfaG (bsR 0 rs) K)) e W->R e W):
  Calls Tryz.prog 7 #[v,.int .i64 (most:Int)] w R:=by
 obtain⟨W0,hW0⟩:∃W0,w.alloc (.cells zbf 26)=W0:=⟨_,rfl⟩;have b0:Below w.heap.size w W0:=by rw[<-hW0];exact(Below.refl _ _).alloc (zuz _) _
 have x0:W0.heap[w.heap.size]?=some (.cells zbf 26 (0,0)):=by rw[<-hW0];exact zuR _ _
 have hvd:=ziW;have hll:=zk2 v rs W0 (hs.below b0) hsm;unfold zbf at hW0;have HB0:=hdn b0;have HX0:=hdn x0;have HW0:=hdn hW0;have HS:=hdn hs;have HBr:=hdn hB;have HL:=hdn hL;have HR:=hdn hR;have HE:=hdn hE;have hi1:¬(most:Int)<1:=by omega
 have hi2:¬(4000:Int)<(most:Int):=by omega
 have hsz:W0.heap.size=w.heap.size+1:=by rw[<-hW0];simp
 have Hsz:=hdn hsz;clear b0 x0 hW0 hs hB hL hR hE hsm hsz
 go_enter Tryz.func7,Tryz.ntmps7
 go_upto_region 1 with fail
 rw[HW0.out];clear HW0
 go_wp2_with fail
 refine hll.mono ?_;rintro e w1 ⟨hb1,⟨hl,a,b,rfl⟩|⟨hl,gL,capL,vs,rfl,hown,hP⟩⟩
 ·have x1:=zab HX0.out hb1;unfold zbf at x1;obtain⟨p0,p1,p2,p3,p4⟩:=zaq x1;obtain⟨f0,f1,f2,f3,f4⟩:=zcL x1;have B1:=hdn (zaa HB0.out HB0.out.size hb1);have Hl:=hdn hl;clear x1 hb1 hll hl;go_wp2;refine zuN (v:=.tuple #[.agg #[.slice none 0 0,.int .i64 0,.slice none 0 0,.slice none 0 0,.slice none 0 0],.int .i64 2]) (by simp[results,Tryz.results7,go_sem,p0,p1,p2,p3,p4]) rfl ?_;exact HL.out Hl.out _ (zbn B1.out (zuz _) _ _ _ _ _)
 ·have hsu:=zgO hl;have h4:wSum rs<=4000:=by
   unfold zb5 at hl;simp only[ztt,zuP] at hl;exact hl.2
  have h0:=hsu.2.1 rs.length (zuz _);rw[zuq] at h0;obtain⟨wt,hwt⟩:∃wt:Nat,wSum rs=wt:=⟨(wSum rs).toNat,by omega⟩;obtain⟨nw,hnw⟩:∃nw,nw=(wt+63)/64:=⟨_,rfl⟩;have B1:=zaa HB0.out HB0.out.size hb1;have hBr1:zbj w1:=HBr.out.keep (B1.block 0 (zbz HBr.out));have hns:=zjO v rs gL capL W0.heap.size wt nw vs w1 (HS.out.below B1) hown hP hl hwt (by omega) hnw hBr1;have x1:=zab HX0.out hb1;have hw64:wt<=64*nw:=by omega
  have hrl:∀(k:Nat) (b:BrG),(bsR 0 rs)[k]?=some b->b.rule<=99:=fun k b hb=>by have:=zlY rs 0 k b hb;have:=hsu.1;omega
  have Hl:=hdn hl;have HB1:=hdn B1;have HX1:=hdn x1;have Hrl:=hdn hrl;have hwi:(wt:Int)<=4000:=by omega
  rw[hwt];clear hll hown hP hl hsu h4 h0 hwt hnw B1 hBr1 x1 hrl hb1 HX0 HB0 HS HBr
  go_wp2_with fail
  refine hns.mono ?_;rintro e w2 ⟨s,bt,gs,gl,gf,n,sv,fv,mk,f,fr,F,φ,A0,A1,t0,e0,t1,e1,tg,fn,rfl,hn,hN⟩;have hex:=zmV hN hn hw64 Hrl.out most hm1 hm4;have B2:=HB1.out.trans (hN.bel.mono HB1.out.size);have x2:=zab HX1.out hN.bel;have HB2:=hdn B2;have HX2:=hdn x2;clear hns hN B2 x2 HB1 HX1
  go_wp2_with fail
  refine hex.mono ?_;rintro e w3 ⟨hb3,⟨hrf,rfl⟩|⟨K,v3,hEG,rfl,hF⟩⟩
  ·have B3:=HB2.out.trans (hb3.mono HB2.out.size);have x3:=zab HX2.out hb3;obtain⟨W4,hW4⟩:∃W4,w3.alloc (.cells #[.slice none 0 0,.int .i64 0,.slice none 0 0,.slice none 0 0,.slice none 0 0] 26)=W4:=⟨_,rfl⟩;have b4:Below w3.heap.size w3 W4:=by rw[<-hW4];exact(Below.refl _ _).alloc (zuz _) _
   have x4:=zab x3 b4;unfold zbf at x4;obtain⟨p0,p1,p2,p3,p4⟩:=zaq x4;obtain⟨f0,f1,f2,f3,f4⟩:=zcL x4;have HB4:=hdn (B3.trans (b4.mono B3.size));have Hrf:=hdn hrf;have HW4:=hdn hW4;clear hex hb3 hrf B3 x3 hW4 b4 x4;unfold zbf
   go_upto_region 7 with fail
   rw[HW4.out];clear HW4;go_wp2;refine zuN (v:=.tuple #[.agg #[.slice none 0 0,.int .i64 0,.slice none 0 0,.slice none 0 0,.slice none 0 0],.int .i64 3]) (by simp[results,Tryz.results7,go_sem,p0,p1,p2,p3,p4]) rfl ?_;exact HR.out Hl.out Hrf.out _ (zbn HB4.out (zuz _) _ _ _ _ _)
  ·have B3:=HB2.out.trans (hb3.mono HB2.out.size);have x3:=zab HX2.out hb3;have hfine:=zoh hEG hm4 Hrl.out;have htg:=zl4 hEG;obtain⟨d,Hd⟩:∃d,Hid (dfaG (bsR 0 rs) K=d):=⟨_,rfl⟩;have c0:Owns (w2.heap.size+1) w3 (v3 0) d.classes:=by rw[<-Hd.out];exact hF.own 0 (by omega)
   have c1:Owns (w2.heap.size+1) w3 (v3 1) d.next:=by rw[<-Hd.out];exact hF.own 1 (by omega)
   have c2:Owns (w2.heap.size+1) w3 (v3 2) d.tag:=by rw[<-Hd.out,htg.1];exact hF.own 2 (by omega)
   have c3:Owns (w2.heap.size+1) w3 (v3 3) d.fin:=by rw[<-Hd.out,htg.2];exact hF.own 3 (by omega)
   have ewd:((hdsG (bsR 0 rs)).length:Int)=d.width:=by rw[<-Hd.out];rfl
   rw[Hd.out] at hfine;obtain⟨⟨a0,q0⟩,d0⟩:=zaj c0;obtain⟨⟨a1,q1⟩,d1⟩:=zaj c1;obtain⟨⟨a2,q2⟩,d2⟩:=zaj c2;obtain⟨⟨a3,q3⟩,d3⟩:=zaj c3;dsimp only at d0 d1 d2 d3;have l0:=hfine.cl;have l1:=hfine.nl;have l2:=hfine.n2;have l3:=hfine.fl;have lw:=hfine.w2;have lw1:=hfine.w1;have ln:(d.next.length:Int)<=4000*256:=by rw[l1];exact ztA (by omega) lw (by omega) (by omega)
   have hDA:zbU 0 w3 (v3 0) (v3 1) (v3 2) (v3 3) d:=zbU.low ⟨c0.at (by omega),c1.at (by omega),c2.at (by omega),c3.at (by omega)⟩ (zuL _);rw[d0,d1,d2,d3] at hDA;have hrow:rowD ((hdsG (bsR 0 rs)).length:Int) v3=#[.slice a0 d.classes.length q0,.int .i64 d.width,.slice a1 d.next.length q1,.slice a2 d.tag.length q2,.slice a3 d.fin.length q3]:=by
    unfold rowD;rw[d0,d1,d2,d3,ewd]
   rw[hrow];obtain⟨W4,hW4⟩:∃W4,w3.alloc (.cells #[.slice a0 d.classes.length q0,.int .i64 d.width,.slice a1 d.next.length q1,.slice a2 d.tag.length q2,.slice a3 d.fin.length q3] 26)=W4:=⟨_,rfl⟩;have b4:Below w3.heap.size w3 W4:=by rw[<-hW4];exact(Below.refl _ _).alloc (zuz _) _
   have y4:W4.heap[w3.heap.size]?=some (.cells #[.slice a0 d.classes.length q0,.int .i64 d.width,.slice a1 d.next.length q1,.slice a2 d.tag.length q2,.slice a3 d.fin.length q3] 26 (0,0)):=by rw[<-hW4];exact zuR _ _
   obtain⟨r0,r1,r2,r3,r4⟩:=zaq y4;have hmn:=zng _ _ _ _ d W4 (hDA.below b4) hfine;have HDB:=hdn (zop hfine);have HB4:=hdn (B3.trans (b4.mono B3.size));have HX4:=hdn (zab x3 b4);have HEG:=hdn hEG;have HW4:=hdn hW4;obtain⟨dw,hdw⟩:∃dw,d.width=dw:=⟨_,rfl⟩;obtain⟨n0,hn0⟩:∃n0,d.classes.length=n0:=⟨_,rfl⟩;obtain⟨n1,hn1⟩:∃n1,d.next.length=n1:=⟨_,rfl⟩;obtain⟨n2,hn2⟩:∃n2,d.tag.length=n2:=⟨_,rfl⟩;obtain⟨n3,hn3⟩:∃n3,d.fin.length=n3:=⟨_,rfl⟩;rw[hdw,hn0,hn1,hn2,hn3] at hmn HW4 ⊢;rw[hdw] at r1;rw[hn0] at r0;rw[hn1] at r2;rw[hn2] at r3;rw[hn3] at r4;clear hex hb3 hEG hF B3 x3 hfine htg c0 c1 c2 c3 ewd d0 d1 d2 d3 l0 l1 l2 l3 lw lw1 ln hDA hrow hW4 b4 y4 hdw hn0 hn1 hn2 hn3 hvd
   go_upto_region 7 with fail
   rw[HW4.out];clear HW4
   go_wp2_with fail
   refine hmn.mono ?_;rintro e w5 hMP;obtain⟨gm,vm,rfl,hgm,hFm,hb5⟩:=zmh HDB.out hMP;have x5:=zab HX4.out hb5;unfold zbf at x5;obtain⟨p0,p1,p2,p3,p4⟩:=zaq x5;obtain⟨f0,f1,f2,f3,f4⟩:=zcL x5;obtain⟨⟨b0,u0⟩,w0e⟩:=zaj (hFm.own 0 (by omega));obtain⟨⟨b1,u1⟩,w1e⟩:=zaj (hFm.own 1 (by omega));obtain⟨⟨b2,u2⟩,w2e⟩:=zaj (hFm.own 2 (by omega));obtain⟨⟨b3,u3⟩,w3e⟩:=zaj (hFm.own 3 (by omega));have hans:zcA w 0 (minW d) (minL d) (.returned (.tuple #[.agg (rowD (minW d) vm),.int .i64 0])) (set5 w5 w.heap.size (vm 0) (.int .i64 (minW d)) (vm 1) (vm 2) (vm 3)):=
    ⟨gm,vm,rfl,by have:=HB4.out.size;omega,hFm.set5 (by have:=HB4.out.size;omega) _ _ _ _ _,zbn (HB4.out.trans (hb5.mono HB4.out.size)) (zuz _) _ _ _ _ _⟩
   have HANS:=hdn hans;generalize hmw:minW d=mw at *;generalize (minL d 0).length=m0 at *;generalize (minL d 1).length=m1 at *;generalize (minL d 2).length=m2 at *;generalize (minL d 3).length=m3 at *;dsimp only at w0e w1e w2e w3e;have hrd:rowD mw vm=#[.slice b0 m0 u0,.int .i64 mw,.slice b1 m1 u1,.slice b2 m2 u2,.slice b3 m3 u3]:=by unfold rowD;rw[w0e,w1e,w2e,w3e]
   rw[hrd];have HRD:=hdn hrd;have HW0E:=hdn w0e;have HW1E:=hdn w1e;have HW2E:=hdn w2e;have HW3E:=hdn w3e;have HMW:=hdn hmw;clear hans x5 hFm hb5 hmn r0 r1 r2 r3 r4 hrd w0e w1e w2e w3e hmw hMP;go_wp2;refine zuN (v:=.tuple #[.agg #[.slice b0 m0 u0,.int .i64 mw,.slice b1 m1 u1,.slice b2 m2 u2,.slice b3 m3 u3],.int .i64 0]) (by simp[results,Tryz.results7,go_sem,p0,p1,p2,p3,p4]) rfl ?_;refine HE.out Hl.out K HEG.out _ _ ?_;rw[Hd.out,HMW.out,<-HRD.out,<-HW0E.out,<-HW1E.out,<-HW2E.out,<-HW3E.out];exact HANS.out
theorem zhz(v:Value)(rs:List za0)(most code width:Int)(l:Nat->List Int)(w:World)(hs:zaW 0 w v rs)(hsm:zdB rs)(hB:zbj w)(hr:CmR rs most code width l):
  Calls Tryz.prog 7 #[v,.int .i64 most] w (zcA w code width l):=by
 by_cases hm:1<=most/\most<=4000
 ·have e:((most.toNat:Nat):Int)=most:=by omega
  have key:=zgJ v rs most.toNat w hs hsm hB (by omega) (by omega) (zcA w code width l) ?_ ?_ ?_
  ·rw[e] at key;exact key
  ·intro hl W hb;rcases hr with hr|hr|hr|hr
   ·exact absurd hm hr.1
   ·rw[hr.2.2.1,hr.2.2.2.1,hr.2.2.2.2];exact zcA.void hb
   ·rw[hr.2.1] at hl;cases hl
   ·rw[hr.2.1] at hl;cases hl
  ·intro hl hk W hb;rcases hr with hr|hr|hr|hr
   ·exact absurd hm hr.1
   ·rw[hr.2.1] at hl;cases hl
   ·rw[hr.2.2.2.1,hr.2.2.2.2.1,hr.2.2.2.2.2];exact zcA.void hb
   ·obtain⟨K,hK,_⟩:=hr.2.2;obtain⟨k0,hk⟩:=hk;exact(zit hK hk).elim
  ·intro hl K hK e W ha;rcases hr with hr|hr|hr|hr
   ·exact absurd hm hr.1
   ·rw[hr.2.1] at hl;cases hl
   ·obtain⟨k0,hk⟩:=hr.2.2.1;exact(zit hK hk).elim
   ·obtain⟨K',hK',e1,e2,e3⟩:=hr.2.2;rw[e1,e2,e3,zoj hK' hK];exact ha
 ·rcases hr with hr|hr|hr|hr
  ·rw[hr.2.1,hr.2.2.1,hr.2.2.2];exact zfZ v most w hm
  ·exact absurd hr.1 hm
  ·exact absurd hr.1 hm
  ·exact absurd hr.1 hm
end Go.Proofs.YthddplbodacjgaaGreatDoor
