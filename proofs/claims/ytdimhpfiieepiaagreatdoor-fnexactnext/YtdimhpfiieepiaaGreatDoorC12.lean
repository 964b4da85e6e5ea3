import Derived.Test.YtdimhpfiieepiaaGreatDoorC11
import Derived.Deep.RegionHeld3
import Derived.Deep.DrawnRows
import Derived.Deep.QuietTactic
import Derived.BigQuiet
namespace Go.Proofs.YtdimhpfiieepiaaGreatDoor
set_option maxHeartbeats 2000000
set_option maxRecDepth 100000
open Go.RowKit
section
variable{w w':World}{lo:Nat}{v:Value}
attribute [local go_sem ↓] Go.wp_at_zero Go.wp_at_succ
theorem hidR{p:Prop}(h:p):Hid p:=h
theorem zid{g:Nat}{a b:Value}{t:TypeId}(h:w.heap[g]?=some (.cells #[a,b] t (0,0))):w.cell? ⟨g,0,none⟩=some a/\w.cell? ⟨g,1,none⟩=some b:=⟨(zvW _ _ _ _ _ _ h:w.cell? ⟨g,0,none⟩=_),(zvW _ _ _ _ _ _ h:w.cell? ⟨g,1,none⟩=_)⟩
def zaG.zero:zaG:=⟨[],0⟩
def zgy(lo:Nat)(w:World)(ao:Option Addr)(rs:List zaG):Prop:=
 0<rs.length->∃b o,ao=some ⟨b,o,none⟩/\lo<=b/\b<w.heap.size/\
  ∀i,i<rs.length->(∃bv,w.cell? ⟨b,o+i*2,none⟩=some bv/\zao lo w bv (rs.getD i .zero).branches)/\w.cell? ⟨b,o+i*2+1,none⟩=some (.int .i64 (rs.getD i .zero).groups)
def zaY(lo:Nat)(w:World)(v:Value)(rs:List zaG):Prop:=∃ao cap,v=.slice ao rs.length cap/\rs.length<=9223372036854775807/\zgy lo w ao rs
theorem zaY.same{rs:List zaG}(h:zaY lo w v rs)(hb:Same lo w w'):zaY lo w' v rs:=by
 obtain⟨ao,cap,rfl,hm,h⟩:=h;refine⟨ao,cap,rfl,hm,fun h0=>?_⟩;obtain⟨b,o,rfl,hge,hlt,hc⟩:=h h0;refine⟨b,o,rfl,hge,zvL hlt hb.size,fun i hi=>?_⟩;obtain⟨⟨bv,c0,hn⟩,c1⟩:=hc i hi;have hcell:∀off,w'.cell? ⟨b,off,none⟩=w.cell? ⟨b,off,none⟩:=fun off=>hb.cell (by exact hge) (by exact hlt)
 exact⟨⟨bv,(hcell _).trans c0,hn.same hb⟩,(hcell _).trans c1⟩
theorem zaY.below{rs:List zaG}(h:zaY lo w v rs)(hb:Below w.heap.size w w'):zaY lo w' v rs:=h.same (.of_below hb)
theorem zaY.mono{lo':Nat}{rs:List zaG}(h:zaY lo w v rs)(hl:lo'<=lo):zaY lo' w v rs:=by
 obtain⟨ao,cap,rfl,hm,h⟩:=h;refine⟨ao,cap,rfl,hm,fun h0=>?_⟩;obtain⟨b,o,rfl,hge,hlt,hc⟩:=h h0;refine⟨b,o,rfl,by omega,hlt,fun i hi=>?_⟩;obtain⟨⟨bv,c0,hn⟩,c1⟩:=hc i hi;exact⟨⟨bv,c0,hn.mono hl⟩,c1⟩
theorem zgy.elem{wr:World}{ao:Option Addr}{rs:List zaG}(h:zgy lo w ao rs)(hb:Below w.heap.size w wr){k:Nat}(hk:k<rs.length):
  ∃(b o:Nat) (bv:Value) (rd:zaG),ao=some ⟨b,o,none⟩/\Hid (rs.getD k .zero=rd)/\b<w.heap.size/\wr.cell? ⟨b,o+k*2,none⟩=some bv/\wr.cell? ⟨b,o+k*2+1,none⟩=some (.int .i64 rd.groups)/\zao lo w bv rd.branches:=by
 obtain⟨b,o,rfl,_,hlt,hc⟩:=h (by omega);obtain⟨⟨bv,c0,hn⟩,c1⟩:=hc k hk;exact⟨b,o,bv,_,rfl,rfl,hlt,(hb.cell (by exact hlt)).trans c0,(hb.cell (by exact hlt)).trans c1,hn⟩
def zcL(rs:List zaG):Prop:=rs.length<=1048576/\∀k,k<rs.length->Small (rs.getD k .zero).branches
def okR(r:zaG):Bool:=zbP r.groups r.branches
def wSum:List zaG->Int
 |[]=>0
 |r::rs=>zcG r.branches+wSum rs
theorem zkV(rs:List zaG)(k:Nat)(hk:k<rs.length):wSum (rs.take (k+1))=wSum (rs.take k)+zcG (rs.getD k .zero).branches:=by
 induction rs generalizing k with
 |nil=>exact absurd hk (zvQ _)
 |cons r rs ih=>
  cases k with
  |zero=>simp[wSum]
  |succ k=>
   have:=ih k (by simpa using hk);simp only[zvD,wSum,this,List.getD_cons_succ];omega
def zc2(rs:List zaG):Bool:=decide (rs.length<=100)&&rs.all okR&&decide (wSum rs<=4000)
theorem zp1{r:zaG}(h:okR r=true):zq3 r.branches/\0<=zcG r.branches/\zcG r.branches<=2000:=by
 unfold okR zbP at h;simp only[zuK,zvX] at h;obtain⟨⟨⟨⟨⟨⟨h1,h2⟩,h3⟩,h4⟩,h5⟩,h6⟩,h7⟩:=h;have ha:=zoJ h4;have:=zgt ha r.branches.length (zvJ _);rw[zvB] at this;exact⟨ha,by omega,h7⟩
theorem zlx(v:Value)(rs:List zaG)(w:World)(hs:zaY lo w v rs)(hsm:zcL rs):
  Calls Tryz.prog 61 #[v] w fun e W=>e=.returned (.bool (zc2 rs))/\Below w.heap.size w W:=by
 obtain⟨ao,cap,rfl,hm,hc⟩:=hs;have hl:=hsm.1
 by_cases hbig:rs.length<=100
 ·have hb1:¬(100:Int)<(rs.length:Int):=by omega
  have HC:=hidR hc;have HSM:=hidR hsm;clear hc hsm hl
  go_enter Tryz.func61,Tryz.ntmps61
  go_wp2_with fail
  go_loopw [3,11] (fun sv i wr=>∃k:Nat,k<=rs.length/\i=.int .i64 k/\sv=.int .i64 (wSum (rs.take k))/\Below w.heap.size w wr/\(rs.take k).all okR=true/\0<=wSum (rs.take k)/\wSum (rs.take k)<=2000*k) (fun _ i _=>rs.length-(intOf i).toNat)
  case atStart=>exact⟨0,zvT _,rfl,by simp[wSum],Below.refl _ _,rfl,by simp[wSum],by simp[wSum]⟩
  case round=>
   obtain⟨k,hk,rfl,rfl,hb,hall,hw0,hw1⟩:=hrel
   by_cases hlt:k<rs.length
   ·obtain⟨b,o,bv,rd,rfl,Hrd,hbl,c0,c1,hbs⟩:=HC.out.elem hb hlt;have hwt:=zkV rs k hlt;rw[Hrd.out] at hwt;have hsmk:=HSM.out.2 k hlt;rw[Hrd.out] at hsmk;obtain⟨bo,bc,rfl,hbm,hbc⟩:=hbs;have hi0:(0:Int)<=(k:Int):=by omega
    have hi1:(k:Int)<(rs.length:Int):=by omega
    have hbw:b<wr.heap.size:=zvL hbl hb.size;have hB0:zao lo w (.slice bo rd.branches.length bc) rd.branches:=⟨bo,bc,rfl,hbm,hbc⟩;obtain⟨W2,hW2⟩:∃W2,wr.alloc (.cells #[.slice bo rd.branches.length bc,.int .i64 rd.groups] 69)=W2:=⟨_,rfl⟩;have b2:Below wr.heap.size wr W2:=by rw[<-hW2];exact(Below.refl _ _).alloc (zvJ _) _
    have x2:W2.heap[wr.heap.size]?=some (.cells #[.slice bo rd.branches.length bc,.int .i64 rd.groups] 69 (0,0)):=by rw[<-hW2];exact zvZ _ _
    have bl2:=zaa hb hb.size b2;have cr:=zfi rd.groups (.slice bo rd.branches.length bc) rd.branches W2 (hB0.below bl2) hsmk;have cw:∀W3,Below w.heap.size w W3->okR rd=true->Calls Tryz.prog 88 #[.agg #[.slice bo rd.branches.length bc,.int .i64 rd.groups]] W3 fun e W4=>e=.returned (.int .i64 (zcG rd.branches))/\Below W3.heap.size W3 W4:=fun W3 h3 h4=>zfg rd.groups (.slice bo rd.branches.length bc) rd.branches W3 (hB0.below h3) hsmk (zp1 h4).1
    obtain⟨q0,q1⟩:=zid x2;have HX2:=hidR x2;have HW2:=hidR hW2;have HWT:=hidR hwt;have HBL:=hidR bl2;have hall2:(rs.take (k+1)).all okR=okR rd:=by
     rw[List.take_add_one,List.all_append,hall,zva hlt,<-Hrd.out];simp[List.getD,hlt]
    have HAL:=hidR hall2;have hno:okR rd=false->zc2 rs=false:=fun h=>by
     have:rs.all okR=false:=by
      rw[Bool.eq_false_iff];intro h2;have h3:=zuP.1 h2 rd (by rw[<-Hrd.out];simp[List.getD,hlt]);rw[h] at h3;cases h3
     unfold zc2;rw[this];simp
    have HNO:=hidR hno;have hok2:okR rd=zbP rd.groups rd.branches:=rfl;rw[<-hok2] at cr;have hobd:okR rd=true->0<=zcG rd.branches/\zcG rd.branches<=2000:=fun h=>(zp1 h).2
    have HOB:=hidR hobd;generalize hok:okR rd=ok at *;generalize hrw:zcG rd.branches=rw1 at *;clear hbc hB0 hW2 x2 hwt bl2 b2 hb hall hall2 hno hok2 hok hsmk hbm hobd
    go_upto_region 7 with fail
    rw[HW2.out];clear HW2 c0 c1;cases ok
    ·go_wp2_with fail
     refine cr.mono ?_;rintro e W3 ⟨rfl,b3⟩;go_wp2;go_ret;exact⟨by rw[HNO.out (by simp)];rfl,zaa HBL.out HBL.out.size b3⟩
    ·go_wp2_with fail
     refine cr.mono ?_;rintro e W3 ⟨rfl,b3⟩;have bl3:=zaa HBL.out HBL.out.size b3;obtain⟨q0,q1⟩:=zid ((b3.block _ (zix HX2.out)).trans HX2.out);have cw3:=cw W3 bl3 (by simp);have HB3:=hidR bl3;obtain⟨hr0,hr1⟩:=HOB.out (by simp);generalize hss:wSum (rs.take k)=ss at *;have hwr:IntKind.i64.wrap (ss+rw1)=ss+rw1:=by rw[IntKind.wrap_i64];omega
     clear cr cw bl3 b3 hss
     go_wp2_with fail
     refine cw3.mono ?_;rintro e W4 ⟨rfl,b4⟩;clear cw3;go_wp2
     go_roundw
     case rel=>exact⟨k+1,by omega,by go_num,by rw[HWT.out],zaa HB3.out HB3.out.size b4,HAL.out,by rw[HWT.out];omega,by rw[HWT.out];omega⟩
     case measure=>simp[intOf];omega
   ·have hkk:k=rs.length:=by omega
    rw[hkk,zvB] at hall hw0 hw1 ⊢;have hne:¬(rs.length:Int)<(rs.length:Int):=by omega
    have HB:=hidR hb;have hlb:zc2 rs=decide (wSum rs<=4000):=by unfold zc2;rw[hall];simp[hbig]
    have HLB:=hidR hlb;clear hb hlb;go_wp2;go_ret;exact⟨by rw[HLB.out];rfl,HB.out⟩
 ·have hb1:(100:Int)<(rs.length:Int):=by omega
  have:zc2 rs=false:=by unfold zc2;simp[hbig]
  rw[this];clear this hc hsm
  go_enter Tryz.func61,Tryz.ntmps61
  go_wp2;go_ret;exact⟨rfl,Below.refl _ _⟩
end
section
variable{lo:Nat}{w w':World}{v:Value}{xs:List Int}
attribute [local go_sem ↓] Go.wp_at_zero Go.wp_at_succ
def ziL(lo:Nat)(w:World)(ao:Option Addr)(xs:List Int):Prop:=
 0<xs.length->∃b o,ao=some ⟨b,o,none⟩/\lo<=b/\b<w.heap.size/\∀i,i<xs.length->w.cell? ⟨b,o+i,none⟩=some (.int .i64 (xs.getD i 0))
def zbr(lo:Nat)(w:World)(v:Value)(xs:List Int):Prop:=∃ao cap,v=.slice ao xs.length cap/\xs.length<=9223372036854775807/\ziL lo w ao xs
theorem zbr.same(h:zbr lo w v xs)(hb:Same lo w w'):zbr lo w' v xs:=by
 obtain⟨ao,cap,rfl,hm,h⟩:=h;refine⟨ao,cap,rfl,hm,fun h0=>?_⟩;obtain⟨b,o,rfl,hge,hlt,hc⟩:=h h0;exact⟨b,o,rfl,hge,zvL hlt hb.size,fun i hi=>(hb.cell (by exact hge) (by exact hlt)).trans (hc i hi)⟩
theorem zbr.below(h:zbr lo w v xs)(hb:Below w.heap.size w w'):zbr lo w' v xs:=h.same (.of_below hb)
theorem zbr.mono{lo':Nat}(h:zbr lo w v xs)(hl:lo'<=lo):zbr lo' w v xs:=by
 obtain⟨ao,cap,rfl,hm,h⟩:=h;refine⟨ao,cap,rfl,hm,fun h0=>?_⟩;obtain⟨b,o,rfl,hge,r⟩:=h h0;exact⟨b,o,rfl,zvK hl hge,r⟩
theorem zbr.setCell(h:zbr lo w v xs){a:Addr}(ha:a.block<lo)(u:Value):zbr lo (w.setCell a u) v xs:=h.same (Same.setCell w ha u)
theorem ziL.elem{wr:World}{ao:Option Addr}(h:ziL lo w ao xs)(hb:Below w.heap.size w wr){k:Nat}(hk:k<xs.length):
  ∃(b o:Nat) (x:Int),ao=some ⟨b,o,none⟩/\Hid (xs.getD k 0=x)/\b<w.heap.size/\wr.cell? ⟨b,o+k,none⟩=some (.int .i64 x):=by
 obtain⟨b,o,rfl,_,hlt,hc⟩:=h (by omega);exact⟨b,o,_,rfl,rfl,hlt,(hb.cell (by exact hlt)).trans (hc k hk)⟩
def za3(xs:List Int)(left:Int):Int:=if left-xs.length<0 then -1 else left-xs.length
theorem zb8(xs:List Int)(l:Int)(h:0<=l):-1<=za3 xs l/\za3 xs l<=l:=by unfold za3;split<;>omega
theorem zc8(a:Option Addr)(xs:List Int)(cap:Nat)(left:Int)(w:World)(h0:0<=left)(h1:left<=1048576)(h2:xs.length<=9223372036854775807):
  Calls Tryz.prog 60 #[.slice a xs.length cap,.int .i64 left] w fun e w'=>e=.returned (.int .i64 (za3 xs left))/\w'=w:=by
 by_cases hle:left-xs.length<0
 all_goals
  go_enter Tryz.func60,Tryz.ntmps60
  go_wp2;go_ret;exact⟨zaR (by unfold za3;split<;>omega),rfl⟩
theorem znK{xs:List Value}{k:Nat}{f:Nat->List Value}{a:Value}(h:zb4 xs 1 k f)(hl:k<xs.length)(hk:f k=[a]):zb4 (xs.set k a) 1 (k+1) f:=by
 intro j hj c hc;obtain rfl:c=0:=by omega
 rw[Nat.mul_one,zvH,zve]
 by_cases e:j=k
 ·subst e;rw[hk];simp;omega
 ·rw[zv2 (by omega)];have:=h j (by omega) 0 (by omega)
  simpa using this
theorem zc1{l1 l2:Nat}(v v2:Value)(xs:List Int)(w:World)(hs:zbr l1 w v xs)(hs2:zbr l2 w v2 xs):
  Calls Tryz.prog 79 #[v,v2] w fun e w'=>e=.returned (.bool true)/\Below w.heap.size w w':=by
 obtain⟨ao,cap,rfl,hm,hc⟩:=hs;obtain⟨ao2,cap2,rfl,_,hc2⟩:=hs2
 go_enter Tryz.func79,Tryz.ntmps79
 go_wp2
 go_loopw [5] (fun i wr=>∃k:Nat,k<=xs.length/\i=.int .i64 k/\Below w.heap.size w wr)
  (fun i _=>xs.length-(intOf i).toNat)
 case atStart=>exact⟨0,zvT _,rfl,Below.refl _ _⟩
 case round=>
  obtain⟨k,hk,rfl,hb⟩:=hrel
  by_cases hlt:k<xs.length
  ·obtain⟨b,o,x,rfl,Hn,hbl,c0⟩:=hc.elem hb hlt;obtain⟨b2,o2,x2,rfl,Hn2,hbl2,d0⟩:=hc2.elem hb hlt;have hee:x=x2:=Hn.out.symm.trans Hn2.out;subst hee;have hi0:(0:Int)<=(k:Int):=by omega
   have hi1:(k:Int)<(xs.length:Int):=by omega
   have hne:(x != x)=false:=by simp
   go_wp2
   go_quiet (fail)
   go_wp2
   go_roundw
   case rel=>exact⟨k+1,by omega,by go_num,below_drewN hb _⟩
   case measure=>simp[intOf];omega
  ·go_wp2;go_ret;exact⟨rfl,hb⟩
def zaL(lo hi:Int)(xs:List Int):Bool:=xs.all fun x=>btw x lo hi
theorem zh8(lo hi:Int)(xs:List Int)(k:Nat)(hk:k<xs.length)(x:Int)(h:xs.getD k 0=x):zaL lo hi (xs.drop k)=(btw x lo hi&&zaL lo hi (xs.drop (k+1))):=by
 rw[zuV hk];have:xs[k]=x:=by rw[<-h];simp[List.getD,hk]
 unfold zaL;rw[List.all_cons,this]
theorem zem{lo hi:Int}(h:zaL lo hi xs=true){k:Nat}(hk:k<xs.length):lo<=xs.getD k 0/\xs.getD k 0<=hi:=by
 have:=zuP.1 h (xs.getD k 0) (by
  rw[zu3,zva hk];exact zvg _)
 simpa [btw] using this
end
theorem zkK{xs:List Int}{l:Int}(h:0<=za3 xs l)(hl:l<=1048576):xs.length<=1048576/\za3 xs l<=1048576:=by
 unfold za3 at h ⊢;split at h<;>(try split)<;>omega
theorem zbn{l:Nat}(lo hi:Int)(v:Value)(xs:List Int)(w:World)(hs:zbr l w v xs):
  Calls Tryz.prog 63 #[v,.int .i64 lo,.int .i64 hi] w fun e w'=>e=.returned (.bool (zaL lo hi xs))/\w'=w:=by
 obtain⟨ao,cap,rfl,hm,hc⟩:=hs
 go_enter Tryz.func63,Tryz.ntmps63
 go_wp2
 go_loop [11] (fun i=>∃k:Nat,k<=xs.length/\i=.int .i64 k/\Hid (zaL lo hi xs=zaL lo hi (xs.drop k)))
  (fun i=>xs.length-(intOf i).toNat)
 case atStart=>exact⟨0,zvT _,rfl,rfl⟩
 case round=>
  obtain⟨k,hk,rfl,HS⟩:=hrel
  by_cases hlt:k<xs.length
  ·obtain⟨b,o,x,rfl,Hn,hbl,c0⟩:=hc.elem (Below.refl _ _) hlt;have HD:Hid _:=zh8 lo hi xs k hlt x Hn.out
   by_cases hb:btw x lo hi=true
   ·go_wp2_with (go_at_call 47;refine(zap _ _ _ _).mono ?_;rintro e w' ⟨rfl,rfl⟩)
    go_round
    case rel=>exact⟨k+1,by omega,by go_num,by show _=_;rw[HS.out,HD.out,hb,zuN]⟩
    case measure=>simp[intOf];omega
   ·have hb':btw x lo hi=false:=by simpa using hb
    clear hb
    go_wp2_with (go_at_call 47;refine(zap _ _ _ _).mono ?_;rintro e w' ⟨rfl,rfl⟩)
    go_ret
    exact⟨zae (by rw[HS.out,HD.out,hb',Bool.false_and]),rfl⟩
  ·go_wp2;go_ret;exact⟨zae (by rw[HS.out,zuW (by omega)];rfl),rfl⟩
section
variable{w W:World}{C0 C1 C2:Array Value}
structure Tri(w:World)(t0 t1 t2:TypeId)(C0 C1 C2:Array Value)(W:World):Prop where
 below:Below w.heap.size w W
 size:w.heap.size+1+1+1<=W.heap.size
 r0:W.heap[w.heap.size]?=some (.cells C0 t0 (0,0))
 r1:W.heap[w.heap.size+1]?=some (.cells C1 t1 (0,0))
 r2:W.heap[w.heap.size+1+1]?=some (.cells C2 t2 (0,0))
theorem Tri.new(w:World)(t0 t1 t2:TypeId)(C0 C1 C2:Array Value):Tri w t0 t1 t2 C0 C1 C2 (((w.alloc (.cells C0 t0)).alloc (.cells C1 t1)).alloc (.cells C2 t2)):=
 ⟨(((Below.refl _ _).alloc (zvJ _) _).alloc (by simp) _).alloc (by simp;omega) _,by simp,
  by rw[Below.heap_alloc _ _ _ (by simp;omega),heap_alloc2_old],by rw[Below.heap_alloc _ _ _ (by simp),heap_alloc2_new],
  by have:=zvZ ((w.alloc (.cells C0 t0)).alloc (.cells C1 t1)) (.cells C2 t2);simpa using this⟩
theorem Tri.call{W':World}{t0 t1 t2:TypeId}(h:Tri w t0 t1 t2 C0 C1 C2 W)(hb:Below W.heap.size W W'):Tri w t0 t1 t2 C0 C1 C2 W':=by
 have hz:=h.size;exact⟨zaa h.below h.below.size hb,zvK hz hb.size,(hb.block _ (by omega)).trans h.r0,(hb.block _ (by omega)).trans h.r1,(hb.block _ (by omega)).trans h.r2⟩
theorem Tri.set{t0 t1 t2:TypeId}(h:Tri w t0 t1 t2 C0 C1 C2 W)(o:Nat)(v:Value):Tri w t0 t1 t2 C0 C1 (C2.setIfInBounds o v) (W.setCell ⟨w.heap.size+1+1,o,none⟩ v):=
 ⟨h.below.setCell (by simp;omega) _,by simpa [World.setCell] using h.size,(zv0 _ _ _ _ (by simp;omega)).trans h.r0,(zv0 _ _ _ _ (by simp)).trans h.r1,zv1 _ _ _ _ _ _ h.r2⟩
theorem Tri.cells{t0 t1 t2:TypeId}(h:Tri w t0 t1 t2 C0 C1 C2 W):(∀o,W.cell? ⟨w.heap.size,o,none⟩=C0[o]?)/\(∀o,W.cell? ⟨w.heap.size+1,o,none⟩=C1[o]?)/\(∀o,W.cell? ⟨w.heap.size+1+1,o,none⟩=C2[o]?)/\
  (∀o,W.frozen? ⟨w.heap.size+1,o,none⟩=false)/\(∀o,W.frozen? ⟨w.heap.size+1+1,o,none⟩=false):=
 ⟨fun _=>zvW _ _ _ _ _ _ h.r0,fun _=>zvW _ _ _ _ _ _ h.r1,fun _=>zvW _ _ _ _ _ _ h.r2,fun _=>zvY _ _ _ _ _ h.r1,fun _=>zvY _ _ _ _ _ h.r2⟩
end
theorem zbR{x a b:Int}:btw x a b=true↔a<=x/\x<=b:=by simp[btw]
variable{xs:List Int}{r:List (List Int)}{l:Int}
structure TabD where
 classes:List Int
 width:Int
 base:List Int
 dflt:List Int
 tag:List Int
 fin:List Int
 next:List Int
 chk:List Int
structure zbe(lo:Nat)(w:World)(cv bv fv tv ev nv kv:Value)(d:TabD):Prop where
 classes:zbr lo w cv d.classes
 base:zbr lo w bv d.base
 dflt:zbr lo w fv d.dflt
 tag:zbr lo w tv d.tag
 fin:zbr lo w ev d.fin
 next:zbr lo w nv d.next
 chk:zbr lo w kv d.chk
theorem zbe.below{lo:Nat}{w w':World}{cv bv fv tv ev nv kv:Value}{d:TabD}(h:zbe lo w cv bv fv tv ev nv kv d)(hb:Below w.heap.size w w'):zbe lo w' cv bv fv tv ev nv kv d:=
 ⟨h.classes.below hb,h.base.below hb,h.dflt.below hb,h.tag.below hb,h.fin.below hb,h.next.below hb,h.chk.below hb⟩
def TabD.lists(d:TabD):List (List Int):=[d.classes,d.base,d.dflt,d.tag,d.fin,d.next,d.chk]
def zcR:List (List Int)->Int->Int
 |[],l=>l
 |xs::r,l=>if za3 xs l<0 then -1 else zcR r (za3 xs l)
theorem znf:∀(ls:List (List Int)) (l:Int),0<=l->-1<=zcR ls l/\zcR ls l<=l
 |[],l,h=>by unfold zcR;omega
 |xs::r,l,h=>by
  have a:=zb8 xs l h;unfold zcR;split
  ·omega
  ·have:=znf r _ (show 0<=za3 xs l by omega);omega
theorem zhv:∀(ls:List (List Int)) (l:Int),0<=l->l<=1048576->0<=zcR ls l->∀xs∈ls,xs.length<=1048576
 |[],_,_,_,_,xs,hx=>by cases hx
 |ys::r,l,h0,h1,h,xs,hx=>by
  unfold zcR at h;split at h
  ·omega
  ·rename_i hn
   have a:=zkK (show 0<=za3 ys l by omega) h1;rcases zvp.1 hx with rfl|hx
   ·exact a.1
   ·exact zhv r _ (by omega) a.2 h xs hx
theorem zcr(h:za3 xs l<0):zcR (xs::r) l=-1:=by unfold zcR;rw[zv3 h]
theorem zdO(h:¬za3 xs l<0):zcR (xs::r) l=zcR r (za3 xs l):=by rw[zcR,zv2 h]
def zcu(d:TabD):Prop:=∀xs∈d.lists,xs.length<=1048576
theorem znJ{l1 l2:Nat}(cv bv fv tv ev nv kv cv2 bv2 fv2 tv2 ev2 nv2 kv2:Value)(d:TabD)(w:World)(hs:zbe l1 w cv bv fv tv ev nv kv d)(hs2:zbe l2 w cv2 bv2 fv2 tv2 ev2 nv2 kv2 d):
  Calls Tryz.prog 41 #[.agg #[cv,.int .i64 d.width,bv,fv,tv,ev,nv,kv],.agg #[cv2,.int .i64 d.width,bv2,fv2,tv2,ev2,nv2,kv2]] w fun e w'=>e=.returned (.bool true)/\Below w.heap.size w w':=by
 have hbb0:Below w.heap.size w ((w.alloc (.cells #[cv,.int .i64 d.width,bv,fv,tv,ev,nv,kv] 39)).alloc (.cells #[cv2,.int .i64 d.width,bv2,fv2,tv2,ev2,nv2,kv2] 39)):=((Below.refl _ _).alloc (zvJ _) _).alloc (by simp) _;have r0:((w.alloc (.cells #[cv,.int .i64 d.width,bv,fv,tv,ev,nv,kv] 39)).alloc (.cells #[cv2,.int .i64 d.width,bv2,fv2,tv2,ev2,nv2,kv2] 39)).heap[w.heap.size]?=some (.cells #[cv,.int .i64 d.width,bv,fv,tv,ev,nv,kv] 39 (0,0)):=heap_alloc2_old _ _ _;have q0:((w.alloc (.cells #[cv,.int .i64 d.width,bv,fv,tv,ev,nv,kv] 39)).alloc (.cells #[cv2,.int .i64 d.width,bv2,fv2,tv2,ev2,nv2,kv2] 39)).heap[w.heap.size+1]?=some (.cells #[cv2,.int .i64 d.width,bv2,fv2,tv2,ev2,nv2,kv2] 39 (0,0)):=heap_alloc2_new _ _ _
 go_enter Tryz.func41,Tryz.ntmps41
 go_wp2_with fail
 refine(zc1 _ _ d.classes _ (hs.below hbb0).classes (hs2.below hbb0).classes).mono ?_;rintro e w1 ⟨rfl,hb1⟩;have hbb1:=zaa hbb0 hbb0.size hb1;have r1:=zag r0 hb1;have q1:=zag q0 hb1;clear hb1;have x0:=zaj r1;have x1:=zaj q1
 go_wp2_with fail
 refine(zc1 _ _ d.base _ (hs.below hbb1).base (hs2.below hbb1).base).mono ?_;rintro e w2 ⟨rfl,hb2⟩;have hbb2:=zaa hbb1 hbb1.size hb2;have r2:=zag r1 hb2;have q2:=zag q1 hb2;clear hb2;clear x0 x1;have x0:=zaj r2;have x1:=zaj q2
 go_wp2_with fail
 refine(zc1 _ _ d.dflt _ (hs.below hbb2).dflt (hs2.below hbb2).dflt).mono ?_;rintro e w3 ⟨rfl,hb3⟩;have hbb3:=zaa hbb2 hbb2.size hb3;have r3:=zag r2 hb3;have q3:=zag q2 hb3;clear hb3;clear x0 x1;have x0:=zaj r3;have x1:=zaj q3
 go_wp2_with fail
 refine(zc1 _ _ d.tag _ (hs.below hbb3).tag (hs2.below hbb3).tag).mono ?_;rintro e w4 ⟨rfl,hb4⟩;have hbb4:=zaa hbb3 hbb3.size hb4;have r4:=zag r3 hb4;have q4:=zag q3 hb4;clear hb4;clear x0 x1;have x0:=zaj r4;have x1:=zaj q4
 go_wp2_with fail
 refine(zc1 _ _ d.fin _ (hs.below hbb4).fin (hs2.below hbb4).fin).mono ?_;rintro e w5 ⟨rfl,hb5⟩;have hbb5:=zaa hbb4 hbb4.size hb5;have r5:=zag r4 hb5;have q5:=zag q4 hb5;clear hb5;clear x0 x1;have x0:=zaj r5;have x1:=zaj q5
 go_wp2_with fail
 refine(zc1 _ _ d.next _ (hs.below hbb5).next (hs2.below hbb5).next).mono ?_;rintro e w6 ⟨rfl,hb6⟩;have hbb6:=zaa hbb5 hbb5.size hb6;have r6:=zag r5 hb6;have q6:=zag q5 hb6;clear hb6;clear x0 x1;have x0:=zaj r6;have x1:=zaj q6
 go_wp2_with fail
 refine(zc1 _ _ d.chk _ (hs.below hbb6).chk (hs2.below hbb6).chk).mono ?_;rintro e w7 ⟨rfl,hb7⟩;have hbb7:=zaa hbb6 hbb6.size hb7;have r7:=zag r6 hb7;have q7:=zag q6 hb7;clear hb7;clear x0 x1;have x0:=zaj r7;have x1:=zaj q7;go_wp2;go_ret;exact⟨rfl,hbb7⟩
end Go.Proofs.YtdimhpfiieepiaaGreatDoor
