import Derived.Test.YtdimhpfiieepiaaGreatDoorC12
import Derived.Deep.RegionHeld3
import Derived.Deep.DrawnRows
import Derived.Deep.QuietTactic
import Derived.BigQuiet
namespace Go.Proofs.YtdimhpfiieepiaaGreatDoor
set_option maxHeartbeats 4000000
set_option maxRecDepth 100000
open Go.RowKit
theorem zox{lo:Nat}(cv bv fv tv ev nv kv:Value)(d:TabD)(left:Int)(w:World)(hs:zbe lo w cv bv fv tv ev nv kv d)(h0:0<=left)(h1:left<=1048576):
  Calls Tryz.prog 27 #[.agg #[cv,.int .i64 d.width,bv,fv,tv,ev,nv,kv],.int .i64 left] w fun e w'=>e=.returned (.int .i64 (zcR d.lists left))/\Below w.heap.size w w':=by
 obtain⟨⟨a0,p0,rfl,m0,_⟩,⟨a1,p1,rfl,m1,_⟩,⟨a2,p2,rfl,m2,_⟩,⟨a3,p3,rfl,m3,_⟩,⟨a4,p4,rfl,m4,_⟩,⟨a5,p5,rfl,m5,_⟩,⟨a6,p6,rfl,m6,_⟩⟩:=hs;have H:Hid (zcR d.lists left=zcR [d.classes,d.base,d.dflt,d.tag,d.fin,d.next,d.chk] left):=rfl
 go_enter Tryz.func27,Tryz.ntmps27
 go_wp2_with fail
 refine(zc8 _ _ _ _ _ (by omega) (by omega) m0).mono ?_;rintro e w' ⟨rfl,rfl⟩;have b0:=zb8 d.classes left (by omega)
 by_cases g0:za3 d.classes left<0
 ·have H2:Hid (zcR d.lists left=-1):=H.out.trans (zcr g0);clear H;go_wp2;go_ret;exact⟨zaR H2.out.symm,(Below.refl _ _).alloc (zvJ _) _⟩
 replace H:Hid _:=H.out.trans (zdO g0);generalize za3 d.classes left=l1 at *
 go_wp2_with fail
 refine(zc8 _ _ _ _ _ (by omega) (by omega) m1).mono ?_;rintro e w' ⟨rfl,rfl⟩;have b1:=zb8 d.base l1 (by omega)
 by_cases g1:za3 d.base l1<0
 ·have H2:Hid (zcR d.lists left=-1):=H.out.trans (zcr g1);clear H;go_wp2;go_ret;exact⟨zaR H2.out.symm,(Below.refl _ _).alloc (zvJ _) _⟩
 replace H:Hid _:=H.out.trans (zdO g1);generalize za3 d.base l1=l2 at *
 go_wp2_with fail
 refine(zc8 _ _ _ _ _ (by omega) (by omega) m2).mono ?_;rintro e w' ⟨rfl,rfl⟩;have b2:=zb8 d.dflt l2 (by omega)
 by_cases g2:za3 d.dflt l2<0
 ·have H2:Hid (zcR d.lists left=-1):=H.out.trans (zcr g2);clear H;go_wp2;go_ret;exact⟨zaR H2.out.symm,(Below.refl _ _).alloc (zvJ _) _⟩
 replace H:Hid _:=H.out.trans (zdO g2);generalize za3 d.dflt l2=l3 at *
 go_wp2_with fail
 refine(zc8 _ _ _ _ _ (by omega) (by omega) m3).mono ?_;rintro e w' ⟨rfl,rfl⟩;have b3:=zb8 d.tag l3 (by omega)
 by_cases g3:za3 d.tag l3<0
 ·have H2:Hid (zcR d.lists left=-1):=H.out.trans (zcr g3);clear H;go_wp2;go_ret;exact⟨zaR H2.out.symm,(Below.refl _ _).alloc (zvJ _) _⟩
 replace H:Hid _:=H.out.trans (zdO g3);generalize za3 d.tag l3=l4 at *
 go_wp2_with fail
 refine(zc8 _ _ _ _ _ (by omega) (by omega) m4).mono ?_;rintro e w' ⟨rfl,rfl⟩;have b4:=zb8 d.fin l4 (by omega)
 by_cases g4:za3 d.fin l4<0
 ·have H2:Hid (zcR d.lists left=-1):=H.out.trans (zcr g4);clear H;go_wp2;go_ret;exact⟨zaR H2.out.symm,(Below.refl _ _).alloc (zvJ _) _⟩
 replace H:Hid _:=H.out.trans (zdO g4);generalize za3 d.fin l4=l5 at *
 go_wp2_with fail
 refine(zc8 _ _ _ _ _ (by omega) (by omega) m5).mono ?_;rintro e w' ⟨rfl,rfl⟩;have b5:=zb8 d.next l5 (by omega)
 by_cases g5:za3 d.next l5<0
 ·have H2:Hid (zcR d.lists left=-1):=H.out.trans (zcr g5);clear H;go_wp2;go_ret;exact⟨zaR H2.out.symm,(Below.refl _ _).alloc (zvJ _) _⟩
 replace H:Hid _:=H.out.trans (zdO g5);generalize za3 d.next l5=l6 at *
 go_wp2_with fail
 refine(zc8 _ _ _ _ _ (by omega) (by omega) m6).mono ?_;rintro e w' ⟨rfl,rfl⟩;have b6:=zb8 d.chk l6 (by omega)
 by_cases g6:za3 d.chk l6<0
 ·have H2:Hid (zcR d.lists left=-1):=H.out.trans (zcr g6);clear H;go_wp2;go_ret;exact⟨zaR H2.out.symm,(Below.refl _ _).alloc (zvJ _) _⟩
 replace H:Hid _:=H.out.trans (zdO g6);generalize za3 d.chk l6=l7 at *;go_wp2;go_ret;exact⟨zaR H.out.symm,(Below.refl _ _).alloc (zvJ _) _⟩
section
variable{lo:Nat}
def zfH:List Int->List Int->Bool
 |k::ks,n::ns=>(!(k == -1&&n != 0))&&zfH ks ns
 |_,_=>true
theorem zii(ks ns:List Int)(k:Nat)(hk:k<ks.length)(hn:k<ns.length)(x y:Int)(hx:ks.getD k 0=x)(hy:ns.getD k 0=y):zfH (ks.drop k) (ns.drop k)=((!(x == -1&&y != 0))&&zfH (ks.drop (k+1)) (ns.drop (k+1))):=by
 rw[zuV hk,zuV hn];have h1:ks[k]=x:=by rw[<-hx];simp[List.getD,hk]
 have h2:ns[k]=y:=by rw[<-hy];simp[List.getD,hn]
 rw[zfH,h1,h2]
theorem zj2(ks ns:List Int)(k:Nat)(hk:ks.length<=k):zfH (ks.drop k) (ns.drop k)=true:=by
 rw[zuW hk];rfl
def tabB(d:TabD):Bool:=
 decide (d.classes.length=256)&&btw d.width 1 256&&zaL 0 (d.width-1) d.classes&&btw d.base.length 1 4000&&decide (d.dflt.length=d.base.length)&&decide (d.tag.length=d.base.length)&&decide (d.fin.length=d.base.length) &&
 decide (d.next.length=d.chk.length)&&decide (d.next.length<=60000)&&(zfH d.chk d.next&&(zaL 0 59999 d.base&&zaL 0 (d.base.length-1) d.dflt&&zaL (-1) 99 d.tag&&zaL (-1) 99 d.fin&&zaL (-1) (d.base.length-1) d.chk&&zaL 0 (d.base.length-1) d.next))
theorem zhY(cv bv fv tv ev nv kv:Value)(d:TabD)(w:World)(hs:zbe lo w cv bv fv tv ev nv kv d)(h:¬d.classes.length=256):
  Calls Tryz.prog 62 #[.agg #[cv,.int .i64 d.width,bv,fv,tv,ev,nv,kv]] w fun e w'=>e=.returned (.bool (tabB d))/\Below w.heap.size w w':=by
 have hb0:Below w.heap.size w (w.alloc (.cells #[cv,.int .i64 d.width,bv,fv,tv,ev,nv,kv] 39)):=(Below.refl _ _).alloc (zvJ _) _;have hs1:=hs.below hb0;clear hb0;obtain⟨⟨a0,p0,rfl,m0,y0⟩,⟨a1,p1,rfl,m1,y1⟩,⟨a2,p2,rfl,m2,y2⟩,⟨a3,p3,rfl,m3,y3⟩,⟨a4,p4,rfl,m4,y4⟩,⟨a5,p5,rfl,m5,y5⟩,⟨a6,p6,rfl,m6,y6⟩⟩:=hs;clear y0 y1 y2 y3 y4 y5 y6;have H:Hid (tabB d=false):=by show _=_;simp[tabB,h]
 go_enter Tryz.func62,Tryz.ntmps62
 go_wp2_with (first|(go_at_call 47;refine(zap _ _ _ _).mono ?_;rintro e w' ⟨rfl,rfl⟩)|(go_at_call 63;refine(zbn _ _ _ d.classes _ hs1.classes).mono ?_;rintro e w' ⟨rfl,rfl⟩))
 go_ret
 exact⟨zae H.out.symm,(Below.refl _ _).alloc (zvJ _) _⟩
theorem zhZ(cv bv fv tv ev nv kv:Value)(d:TabD)(w:World)(hs:zbe lo w cv bv fv tv ev nv kv d)(g1:d.classes.length=256)(h:btw d.width 1 256=false):
  Calls Tryz.prog 62 #[.agg #[cv,.int .i64 d.width,bv,fv,tv,ev,nv,kv]] w fun e w'=>e=.returned (.bool (tabB d))/\Below w.heap.size w w':=by
 have hb0:Below w.heap.size w (w.alloc (.cells #[cv,.int .i64 d.width,bv,fv,tv,ev,nv,kv] 39)):=(Below.refl _ _).alloc (zvJ _) _;have hs1:=hs.below hb0;clear hb0;obtain⟨⟨a0,p0,rfl,m0,y0⟩,⟨a1,p1,rfl,m1,y1⟩,⟨a2,p2,rfl,m2,y2⟩,⟨a3,p3,rfl,m3,y3⟩,⟨a4,p4,rfl,m4,y4⟩,⟨a5,p5,rfl,m5,y5⟩,⟨a6,p6,rfl,m6,y6⟩⟩:=hs;clear y0 y1 y2 y3 y4 y5 y6;have H:Hid (tabB d=false):=by show _=_;simp[tabB,h]
 have b1:((d.classes.length:Int) != 256)=false:=by simp[g1]
 clear g1
 go_enter Tryz.func62,Tryz.ntmps62
 go_wp2_with (first|(go_at_call 47;refine(zap _ _ _ _).mono ?_;rintro e w' ⟨rfl,rfl⟩)|(go_at_call 63;refine(zbn _ _ _ d.classes _ hs1.classes).mono ?_;rintro e w' ⟨rfl,rfl⟩))
 go_ret
 exact⟨zae H.out.symm,(Below.refl _ _).alloc (zvJ _) _⟩
theorem zh0(cv bv fv tv ev nv kv:Value)(d:TabD)(w:World)(hs:zbe lo w cv bv fv tv ev nv kv d)(g1:d.classes.length=256)(g2:btw d.width 1 256=true)(h:zaL 0 (d.width-1) d.classes=false):
  Calls Tryz.prog 62 #[.agg #[cv,.int .i64 d.width,bv,fv,tv,ev,nv,kv]] w fun e w'=>e=.returned (.bool (tabB d))/\Below w.heap.size w w':=by
 have hb0:Below w.heap.size w (w.alloc (.cells #[cv,.int .i64 d.width,bv,fv,tv,ev,nv,kv] 39)):=(Below.refl _ _).alloc (zvJ _) _;have hs1:=hs.below hb0;clear hb0;obtain⟨⟨a0,p0,rfl,m0,y0⟩,⟨a1,p1,rfl,m1,y1⟩,⟨a2,p2,rfl,m2,y2⟩,⟨a3,p3,rfl,m3,y3⟩,⟨a4,p4,rfl,m4,y4⟩,⟨a5,p5,rfl,m5,y5⟩,⟨a6,p6,rfl,m6,y6⟩⟩:=hs;clear y0 y1 y2 y3 y4 y5 y6;have H:Hid (tabB d=false):=by show _=_;simp[tabB,h]
 have b1:((d.classes.length:Int) != 256)=false:=by simp[g1]
 clear g1;have hw:=zbR.1 g2
 go_enter Tryz.func62,Tryz.ntmps62
 go_wp2_with (first|(go_at_call 47;refine(zap _ _ _ _).mono ?_;rintro e w' ⟨rfl,rfl⟩)|(go_at_call 63;refine(zbn _ _ _ d.classes _ hs1.classes).mono ?_;rintro e w' ⟨rfl,rfl⟩))
 go_ret
 exact⟨zae H.out.symm,(Below.refl _ _).alloc (zvJ _) _⟩
theorem zh1(cv bv fv tv ev nv kv:Value)(d:TabD)(w:World)(hs:zbe lo w cv bv fv tv ev nv kv d)(g1:d.classes.length=256)(g2:btw d.width 1 256=true)(g3:zaL 0 (d.width-1) d.classes=true)(h:btw d.base.length 1 4000=false):
  Calls Tryz.prog 62 #[.agg #[cv,.int .i64 d.width,bv,fv,tv,ev,nv,kv]] w fun e w'=>e=.returned (.bool (tabB d))/\Below w.heap.size w w':=by
 have hb0:Below w.heap.size w (w.alloc (.cells #[cv,.int .i64 d.width,bv,fv,tv,ev,nv,kv] 39)):=(Below.refl _ _).alloc (zvJ _) _;have hs1:=hs.below hb0;clear hb0;obtain⟨⟨a0,p0,rfl,m0,y0⟩,⟨a1,p1,rfl,m1,y1⟩,⟨a2,p2,rfl,m2,y2⟩,⟨a3,p3,rfl,m3,y3⟩,⟨a4,p4,rfl,m4,y4⟩,⟨a5,p5,rfl,m5,y5⟩,⟨a6,p6,rfl,m6,y6⟩⟩:=hs;clear y0 y1 y2 y3 y4 y5 y6;have H:Hid (tabB d=false):=by show _=_;simp[tabB,h]
 have b1:((d.classes.length:Int) != 256)=false:=by simp[g1]
 clear g1;have hw:=zbR.1 g2
 go_enter Tryz.func62,Tryz.ntmps62
 go_wp2_with (first|(go_at_call 47;refine(zap _ _ _ _).mono ?_;rintro e w' ⟨rfl,rfl⟩)|(go_at_call 63;refine(zbn _ _ _ d.classes _ hs1.classes).mono ?_;rintro e w' ⟨rfl,rfl⟩))
 go_ret
 exact⟨zae H.out.symm,(Below.refl _ _).alloc (zvJ _) _⟩
theorem zh2(cv bv fv tv ev nv kv:Value)(d:TabD)(w:World)(hs:zbe lo w cv bv fv tv ev nv kv d)(g1:d.classes.length=256)(g2:btw d.width 1 256=true)(g3:zaL 0 (d.width-1) d.classes=true)(g4:btw d.base.length 1 4000=true)(h:¬d.dflt.length=d.base.length):
  Calls Tryz.prog 62 #[.agg #[cv,.int .i64 d.width,bv,fv,tv,ev,nv,kv]] w fun e w'=>e=.returned (.bool (tabB d))/\Below w.heap.size w w':=by
 have hb0:Below w.heap.size w (w.alloc (.cells #[cv,.int .i64 d.width,bv,fv,tv,ev,nv,kv] 39)):=(Below.refl _ _).alloc (zvJ _) _;have hs1:=hs.below hb0;clear hb0;obtain⟨⟨a0,p0,rfl,m0,y0⟩,⟨a1,p1,rfl,m1,y1⟩,⟨a2,p2,rfl,m2,y2⟩,⟨a3,p3,rfl,m3,y3⟩,⟨a4,p4,rfl,m4,y4⟩,⟨a5,p5,rfl,m5,y5⟩,⟨a6,p6,rfl,m6,y6⟩⟩:=hs;clear y0 y1 y2 y3 y4 y5 y6;have H:Hid (tabB d=false):=by show _=_;simp[tabB,h]
 have b1:((d.classes.length:Int) != 256)=false:=by simp[g1]
 clear g1;have hw:=zbR.1 g2;have ht:=zbR.1 g4
 go_enter Tryz.func62,Tryz.ntmps62
 go_wp2_with (first|(go_at_call 47;refine(zap _ _ _ _).mono ?_;rintro e w' ⟨rfl,rfl⟩)|(go_at_call 63;refine(zbn _ _ _ d.classes _ hs1.classes).mono ?_;rintro e w' ⟨rfl,rfl⟩))
 go_ret
 exact⟨zae H.out.symm,(Below.refl _ _).alloc (zvJ _) _⟩
theorem zh3(cv bv fv tv ev nv kv:Value)(d:TabD)(w:World)(hs:zbe lo w cv bv fv tv ev nv kv d)(g1:d.classes.length=256)(g2:btw d.width 1 256=true)(g3:zaL 0 (d.width-1) d.classes=true)(g4:btw d.base.length 1 4000=true)(g5:d.dflt.length=d.base.length)(h:¬d.tag.length=d.base.length):
  Calls Tryz.prog 62 #[.agg #[cv,.int .i64 d.width,bv,fv,tv,ev,nv,kv]] w fun e w'=>e=.returned (.bool (tabB d))/\Below w.heap.size w w':=by
 have hb0:Below w.heap.size w (w.alloc (.cells #[cv,.int .i64 d.width,bv,fv,tv,ev,nv,kv] 39)):=(Below.refl _ _).alloc (zvJ _) _;have hs1:=hs.below hb0;clear hb0;obtain⟨⟨a0,p0,rfl,m0,y0⟩,⟨a1,p1,rfl,m1,y1⟩,⟨a2,p2,rfl,m2,y2⟩,⟨a3,p3,rfl,m3,y3⟩,⟨a4,p4,rfl,m4,y4⟩,⟨a5,p5,rfl,m5,y5⟩,⟨a6,p6,rfl,m6,y6⟩⟩:=hs;clear y0 y1 y2 y3 y4 y5 y6;have H:Hid (tabB d=false):=by show _=_;simp[tabB,h]
 have b1:((d.classes.length:Int) != 256)=false:=by simp[g1]
 have b5:((d.dflt.length:Int) != d.base.length)=false:=by simp[g5]
 clear g1 g5;have hw:=zbR.1 g2;have ht:=zbR.1 g4
 go_enter Tryz.func62,Tryz.ntmps62
 go_wp2_with (first|(go_at_call 47;refine(zap _ _ _ _).mono ?_;rintro e w' ⟨rfl,rfl⟩)|(go_at_call 63;refine(zbn _ _ _ d.classes _ hs1.classes).mono ?_;rintro e w' ⟨rfl,rfl⟩))
 go_ret
 exact⟨zae H.out.symm,(Below.refl _ _).alloc (zvJ _) _⟩
theorem zh4(cv bv fv tv ev nv kv:Value)(d:TabD)(w:World)(hs:zbe lo w cv bv fv tv ev nv kv d)(g1:d.classes.length=256)(g2:btw d.width 1 256=true)(g3:zaL 0 (d.width-1) d.classes=true)(g4:btw d.base.length 1 4000=true)(g5:d.dflt.length=d.base.length)(g6:d.tag.length=d.base.length)(h:¬d.fin.length=d.base.length):
  Calls Tryz.prog 62 #[.agg #[cv,.int .i64 d.width,bv,fv,tv,ev,nv,kv]] w fun e w'=>e=.returned (.bool (tabB d))/\Below w.heap.size w w':=by
 have hb0:Below w.heap.size w (w.alloc (.cells #[cv,.int .i64 d.width,bv,fv,tv,ev,nv,kv] 39)):=(Below.refl _ _).alloc (zvJ _) _;have hs1:=hs.below hb0;clear hb0;obtain⟨⟨a0,p0,rfl,m0,y0⟩,⟨a1,p1,rfl,m1,y1⟩,⟨a2,p2,rfl,m2,y2⟩,⟨a3,p3,rfl,m3,y3⟩,⟨a4,p4,rfl,m4,y4⟩,⟨a5,p5,rfl,m5,y5⟩,⟨a6,p6,rfl,m6,y6⟩⟩:=hs;clear y0 y1 y2 y3 y4 y5 y6;have H:Hid (tabB d=false):=by show _=_;simp[tabB,h]
 have b1:((d.classes.length:Int) != 256)=false:=by simp[g1]
 have b5:((d.dflt.length:Int) != d.base.length)=false:=by simp[g5]
 have b6:((d.tag.length:Int) != d.base.length)=false:=by simp[g6]
 clear g1 g5 g6;have hw:=zbR.1 g2;have ht:=zbR.1 g4
 go_enter Tryz.func62,Tryz.ntmps62
 go_wp2_with (first|(go_at_call 47;refine(zap _ _ _ _).mono ?_;rintro e w' ⟨rfl,rfl⟩)|(go_at_call 63;refine(zbn _ _ _ d.classes _ hs1.classes).mono ?_;rintro e w' ⟨rfl,rfl⟩))
 go_ret
 exact⟨zae H.out.symm,(Below.refl _ _).alloc (zvJ _) _⟩
theorem zh5(cv bv fv tv ev nv kv:Value)(d:TabD)(w:World)(hs:zbe lo w cv bv fv tv ev nv kv d)(g1:d.classes.length=256)(g2:btw d.width 1 256=true)(g3:zaL 0 (d.width-1) d.classes=true)(g4:btw d.base.length 1 4000=true)(g5:d.dflt.length=d.base.length)(g6:d.tag.length=d.base.length)(g7:d.fin.length=d.base.length)(h:¬d.next.length=d.chk.length):
  Calls Tryz.prog 62 #[.agg #[cv,.int .i64 d.width,bv,fv,tv,ev,nv,kv]] w fun e w'=>e=.returned (.bool (tabB d))/\Below w.heap.size w w':=by
 have hb0:Below w.heap.size w (w.alloc (.cells #[cv,.int .i64 d.width,bv,fv,tv,ev,nv,kv] 39)):=(Below.refl _ _).alloc (zvJ _) _;have hs1:=hs.below hb0;clear hb0;obtain⟨⟨a0,p0,rfl,m0,y0⟩,⟨a1,p1,rfl,m1,y1⟩,⟨a2,p2,rfl,m2,y2⟩,⟨a3,p3,rfl,m3,y3⟩,⟨a4,p4,rfl,m4,y4⟩,⟨a5,p5,rfl,m5,y5⟩,⟨a6,p6,rfl,m6,y6⟩⟩:=hs;clear y0 y1 y2 y3 y4 y5 y6;have H:Hid (tabB d=false):=by show _=_;simp[tabB,h]
 have b1:((d.classes.length:Int) != 256)=false:=by simp[g1]
 have b5:((d.dflt.length:Int) != d.base.length)=false:=by simp[g5]
 have b6:((d.tag.length:Int) != d.base.length)=false:=by simp[g6]
 have b7:((d.fin.length:Int) != d.base.length)=false:=by simp[g7]
 clear g1 g5 g6 g7;have hw:=zbR.1 g2;have ht:=zbR.1 g4
 go_enter Tryz.func62,Tryz.ntmps62
 go_wp2_with (first|(go_at_call 47;refine(zap _ _ _ _).mono ?_;rintro e w' ⟨rfl,rfl⟩)|(go_at_call 63;refine(zbn _ _ _ d.classes _ hs1.classes).mono ?_;rintro e w' ⟨rfl,rfl⟩))
 go_ret
 exact⟨zae H.out.symm,(Below.refl _ _).alloc (zvJ _) _⟩
theorem zh6(cv bv fv tv ev nv kv:Value)(d:TabD)(w:World)(hs:zbe lo w cv bv fv tv ev nv kv d)(g1:d.classes.length=256)(g2:btw d.width 1 256=true)(g3:zaL 0 (d.width-1) d.classes=true)(g4:btw d.base.length 1 4000=true)(g5:d.dflt.length=d.base.length)(g6:d.tag.length=d.base.length)(g7:d.fin.length=d.base.length)(g8:d.next.length=d.chk.length)(h:¬d.next.length<=60000):
  Calls Tryz.prog 62 #[.agg #[cv,.int .i64 d.width,bv,fv,tv,ev,nv,kv]] w fun e w'=>e=.returned (.bool (tabB d))/\Below w.heap.size w w':=by
 have hb0:Below w.heap.size w (w.alloc (.cells #[cv,.int .i64 d.width,bv,fv,tv,ev,nv,kv] 39)):=(Below.refl _ _).alloc (zvJ _) _;have hs1:=hs.below hb0;clear hb0;obtain⟨⟨a0,p0,rfl,m0,y0⟩,⟨a1,p1,rfl,m1,y1⟩,⟨a2,p2,rfl,m2,y2⟩,⟨a3,p3,rfl,m3,y3⟩,⟨a4,p4,rfl,m4,y4⟩,⟨a5,p5,rfl,m5,y5⟩,⟨a6,p6,rfl,m6,y6⟩⟩:=hs;clear y0 y1 y2 y3 y4 y5 y6;have H:Hid (tabB d=false):=by show _=_;simp[tabB,h]
 have b1:((d.classes.length:Int) != 256)=false:=by simp[g1]
 have b5:((d.dflt.length:Int) != d.base.length)=false:=by simp[g5]
 have b6:((d.tag.length:Int) != d.base.length)=false:=by simp[g6]
 have b7:((d.fin.length:Int) != d.base.length)=false:=by simp[g7]
 have b8:((d.next.length:Int) != d.chk.length)=false:=by simp[g8]
 clear g1 g5 g6 g7 g8;have hw:=zbR.1 g2;have ht:=zbR.1 g4
 go_enter Tryz.func62,Tryz.ntmps62
 go_wp2_with (first|(go_at_call 47;refine(zap _ _ _ _).mono ?_;rintro e w' ⟨rfl,rfl⟩)|(go_at_call 63;refine(zbn _ _ _ d.classes _ hs1.classes).mono ?_;rintro e w' ⟨rfl,rfl⟩))
 go_ret
 exact⟨zae H.out.symm,(Below.refl _ _).alloc (zvJ _) _⟩
theorem zju(cv bv fv tv ev nv kv:Value)(d:TabD)(w:World)(hs:zbe lo w cv bv fv tv ev nv kv d)(g1:d.classes.length=256)(g2:btw d.width 1 256=true)(g3:zaL 0 (d.width-1) d.classes=true)(g4:btw d.base.length 1 4000=true)(g5:d.dflt.length=d.base.length)(g6:d.tag.length=d.base.length)(g7:d.fin.length=d.base.length)(g8:d.next.length=d.chk.length)(g9:d.next.length<=60000):
  Calls Tryz.prog 62 #[.agg #[cv,.int .i64 d.width,bv,fv,tv,ev,nv,kv]] w fun e w'=>e=.returned (.bool (tabB d))/\Below w.heap.size w w':=by
 have hb0:Below w.heap.size w (w.alloc (.cells #[cv,.int .i64 d.width,bv,fv,tv,ev,nv,kv] 39)):=(Below.refl _ _).alloc (zvJ _) _;have hs1:=hs.below hb0;clear hb0;have H:Hid (tabB d=(zfH d.chk d.next&&(zaL 0 59999 d.base&&zaL 0 (d.base.length-1) d.dflt&&zaL (-1) 99 d.tag&&zaL (-1) 99 d.fin&&zaL (-1) (d.base.length-1) d.chk&&zaL 0 (d.base.length-1) d.next))):=by show _=_;simp[tabB,g1,g2,g3,g4,g5,g6,g7,g9,<-g8]
 have b1:((d.classes.length:Int) != 256)=false:=by simp[g1]
 have b5:((d.dflt.length:Int) != d.base.length)=false:=by simp[g5]
 have b6:((d.tag.length:Int) != d.base.length)=false:=by simp[g6]
 have b7:((d.fin.length:Int) != d.base.length)=false:=by simp[g7]
 have b8:((d.next.length:Int) != d.chk.length)=false:=by simp[g8]
 have hlen:d.chk.length=d.next.length:=g8.symm;have Hlen:Hid (d.chk.length=d.next.length):=hlen;have hw:=zbR.1 g2;have ht:=zbR.1 g4;clear g1 g5 g6 g7 g8 hlen;have hs2:=hs;obtain⟨⟨a0,p0,rfl,m0,y0⟩,⟨a1,p1,rfl,m1,y1⟩,⟨a2,p2,rfl,m2,y2⟩,⟨a3,p3,rfl,m3,y3⟩,⟨a4,p4,rfl,m4,y4⟩,⟨a5,p5,rfl,m5,y5⟩,⟨a6,p6,rfl,m6,y6⟩⟩:=hs;clear y0 y1 y2 y3 y4;have hbA:Below w.heap.size w (w.alloc (.cells #[.slice a0 d.classes.length p0,.int .i64 d.width,.slice a1 d.base.length p1,.slice a2 d.dflt.length p2,.slice a3 d.tag.length p3,.slice a4 d.fin.length p4,.slice a5 d.next.length p5,.slice a6 d.chk.length p6] 39)):=(Below.refl _ _).alloc (zvJ _) _
 go_enter Tryz.func62,Tryz.ntmps62
 go_wp2_with (first|(go_at_call 47;refine(zap _ _ _ _).mono ?_;rintro e w' ⟨rfl,rfl⟩)|(go_at_call 63;refine(zbn _ _ _ d.classes _ hs1.classes).mono ?_;rintro e w' ⟨rfl,rfl⟩))
 go_loop [68] (fun i=>∃k:Nat,k<=d.chk.length/\i=.int .i64 k/\Hid (tabB d=(zfH (d.chk.drop k) (d.next.drop k)&&(zaL 0 59999 d.base&&zaL 0 (d.base.length-1) d.dflt&&zaL (-1) 99 d.tag&&zaL (-1) 99 d.fin&&zaL (-1) (d.base.length-1) d.chk&&zaL 0 (d.base.length-1) d.next))))
  (fun i=>d.chk.length-(intOf i).toNat)
 case atStart=>exact⟨0,zvT _,rfl,H.out⟩
 case round=>
  clear H;obtain⟨k,hk,rfl,HS⟩:=hrel
  by_cases hlt:k<d.chk.length
  ·have hlt2:k<d.next.length:=by have:=Hlen.out;omega
   obtain⟨b,o,x,rfl,Hn,hbl,c0⟩:=y6.elem hbA hlt;obtain⟨b2,o2,y,rfl,Hn2,hbl2,d0⟩:=y5.elem hbA hlt2;have HD:Hid _:=zii d.chk d.next k hlt hlt2 x y Hn.out Hn2.out
   by_cases hx:x=-1
   ·by_cases hy:y=0
    ·go_wp2
     go_round
     case rel=>exact⟨k+1,by omega,by go_num,by show _=_;rw[HS.out,HD.out];simp[hx,hy]⟩
     case measure=>simp[intOf];omega
    ·go_wp2;go_ret;exact⟨zae (by rw[HS.out,HD.out];simp[hx,hy]),hbA⟩
   ·have HE:Hid ((!(x == -1&&y != 0))=true):=by show _=_;simp[hx]
    go_wp2
    go_round
    case rel=>exact⟨k+1,by omega,by go_num,by show _=_;rw[HS.out,HD.out,HE.out,zuN]⟩
    case measure=>simp[intOf];omega
  ·rw[zj2 _ _ k (by omega),zuN] at HS;clear y5 y6 g2 g3 g4 g9 b1 b5 b6 b7 b8
   go_wp2_with fail
   refine(zbn _ _ _ d.base _ hs1.base).mono ?_;rintro e w' ⟨rfl,rfl⟩;cases q0:zaL 0 59999 d.base
   case false=>
    rw[q0] at HS;go_wp2;go_ret;exact⟨zae (by rw[HS.out];simp),hbA⟩
   rw[q0] at HS
   go_wp2_with fail
   refine(zbn _ _ _ d.dflt _ hs1.dflt).mono ?_;rintro e w' ⟨rfl,rfl⟩;cases q1:zaL 0 (d.base.length-1) d.dflt
   case false=>
    rw[q1] at HS;go_wp2;go_ret;exact⟨zae (by rw[HS.out];simp),hbA⟩
   rw[q1] at HS
   go_wp2_with fail
   refine(zbn _ _ _ d.tag _ hs1.tag).mono ?_;rintro e w' ⟨rfl,rfl⟩;cases q2:zaL (-1) 99 d.tag
   case false=>
    rw[q2] at HS;go_wp2;go_ret;exact⟨zae (by rw[HS.out];simp),hbA⟩
   rw[q2] at HS
   go_wp2_with fail
   refine(zbn _ _ _ d.fin _ hs1.fin).mono ?_;rintro e w' ⟨rfl,rfl⟩;cases q3:zaL (-1) 99 d.fin
   case false=>
    rw[q3] at HS;go_wp2;go_ret;exact⟨zae (by rw[HS.out];simp),hbA⟩
   rw[q3] at HS
   go_wp2_with fail
   refine(zbn _ _ _ d.chk _ hs1.chk).mono ?_;rintro e w' ⟨rfl,rfl⟩;cases q4:zaL (-1) (d.base.length-1) d.chk
   case false=>
    rw[q4] at HS;go_wp2;go_ret;exact⟨zae (by rw[HS.out];simp),hbA⟩
   rw[q4] at HS
   go_wp2_with fail
   refine(zbn _ _ _ d.next _ hs1.next).mono ?_;rintro e w' ⟨rfl,rfl⟩;go_wp2;go_ret;exact⟨zae (by rw[HS.out];simp),hbA⟩
theorem zh7(cv bv fv tv ev nv kv:Value)(d:TabD)(w:World)(hs:zbe lo w cv bv fv tv ev nv kv d):
  Calls Tryz.prog 62 #[.agg #[cv,.int .i64 d.width,bv,fv,tv,ev,nv,kv]] w fun e w'=>e=.returned (.bool (tabB d))/\Below w.heap.size w w':=by
 by_cases g1:d.classes.length=256
 case neg=>exact zhY cv bv fv tv ev nv kv d w hs g1
 cases g2:btw d.width 1 256
 case false=>exact zhZ cv bv fv tv ev nv kv d w hs g1 g2
 cases g3:zaL 0 (d.width-1) d.classes
 case false=>exact zh0 cv bv fv tv ev nv kv d w hs g1 g2 g3
 cases g4:btw d.base.length 1 4000
 case false=>exact zh1 cv bv fv tv ev nv kv d w hs g1 g2 g3 g4
 by_cases g5:d.dflt.length=d.base.length
 case neg=>exact zh2 cv bv fv tv ev nv kv d w hs g1 g2 g3 g4 g5
 by_cases g6:d.tag.length=d.base.length
 case neg=>exact zh3 cv bv fv tv ev nv kv d w hs g1 g2 g3 g4 g5 g6
 by_cases g7:d.fin.length=d.base.length
 case neg=>exact zh4 cv bv fv tv ev nv kv d w hs g1 g2 g3 g4 g5 g6 g7
 by_cases g8:d.next.length=d.chk.length
 case neg=>exact zh5 cv bv fv tv ev nv kv d w hs g1 g2 g3 g4 g5 g6 g7 g8
 by_cases g9:d.next.length<=60000
 case neg=>exact zh6 cv bv fv tv ev nv kv d w hs g1 g2 g3 g4 g5 g6 g7 g8 g9
 exact zju cv bv fv tv ev nv kv d w hs g1 g2 g3 g4 g5 g6 g7 g8 g9
end
section
variable{d:TabD}{lo:Nat}
attribute [local go_sem ↓] Go.wp_at_zero Go.wp_at_succ
def zbl(d:TabD)(s:Nat):Int:=d.base.getD s 0
def zbm(d:TabD)(c:Nat):Int:=d.classes.getD c 0
def zfC(d:TabD)(k:Nat):Int:=d.chk.getD k 0
def zeh(d:TabD)(k:Nat):Int:=d.next.getD k 0
def zci(d:TabD)(s:Nat):Int:=d.dflt.getD s 0
def za6(d:TabD)(s c:Nat):Nat:=(zbl d s+zbm d c).toNat
def zcb(d:TabD)(s c:Nat):Int:=if za6 d s c<d.chk.length/\zfC d (za6 d s c)=s then zeh d (za6 d s c) else zci d s
structure zbX(d:TabD):Prop where
 cl:d.classes.length=256
 w1:1<=d.width
 w2:d.width<=256
 cs:zaL 0 (d.width-1) d.classes=true
 n1:1<=(d.base.length:Int)
 n2:(d.base.length:Int)<=4000
 dl:d.dflt.length=d.base.length
 tl:d.tag.length=d.base.length
 el:d.fin.length=d.base.length
 nk:d.next.length=d.chk.length
 nm:d.next.length<=60000
 fr:zfH d.chk d.next=true
 bs:zaL 0 59999 d.base=true
 ds:zaL 0 (d.base.length-1) d.dflt=true
 ts:zaL (-1) 99 d.tag=true
 es:zaL (-1) 99 d.fin=true
 ks:zaL (-1) (d.base.length-1) d.chk=true
 ns:zaL 0 (d.base.length-1) d.next=true
theorem zqJ(h:tabB d=true):zbX d:=by
 simp only[tabB,zuK,zvX,zbR] at h;obtain⟨⟨⟨⟨⟨⟨⟨⟨⟨a,b⟩,c⟩,e⟩,f⟩,g⟩,i⟩,j⟩,k⟩,l,⟨⟨⟨⟨m,n⟩,o⟩,p⟩,q⟩,r⟩:=h;exact⟨a,b.1,b.2,c,e.1,e.2,f,g,i,j,k,l,m,n,o,p,q,r⟩
theorem zbX.bd(h:zbX d){s c:Nat}(hs:s<d.base.length)(hc:c<256):
  0<=zbl d s/\zbl d s<=59999/\0<=zbm d c/\zbm d c<=255/\((za6 d s c:Nat):Int)=zbl d s+zbm d c:=by
 have a:=zem h.bs (k:=s) hs;have b:=zem h.cs (k:=c) (by rw[h.cl];exact hc);have w2:=h.w2;unfold za6 zbl zbm;omega
theorem zrH(cv bv fv tv ev nv kv:Value)(d:TabD)(s c:Nat)(w:World)(hs:zbe lo w cv bv fv tv ev nv kv d)(hf:zbX d)(hs0:s<d.base.length)(hc:c<256)(h:¬za6 d s c<d.chk.length):
  Calls Tryz.prog 30 #[.agg #[cv,.int .i64 d.width,bv,fv,tv,ev,nv,kv],.int .i64 s,.int .i64 c] w fun e w'=>e=.returned (.int .i64 (zcb d s c))/\Below w.heap.size w w':=by
 obtain⟨⟨a0,p0,rfl,m0,y0⟩,⟨a1,p1,rfl,m1,y1⟩,⟨a2,p2,rfl,m2,y2⟩,⟨a3,p3,rfl,m3,y3⟩,⟨a4,p4,rfl,m4,y4⟩,⟨a5,p5,rfl,m5,y5⟩,⟨a6,p6,rfl,m6,y6⟩⟩:=hs;have hcl:=hf.cl;have hn1:=hf.n1;have hn2:=hf.n2;have hdl:=hf.dl;have hnk:=hf.nk;have hnm:=hf.nm;obtain⟨x0,x1,z0,z1,hsl⟩:=hf.bd hs0 hc;obtain⟨cb,co,rfl,_,cl,cq⟩:=y0 (by omega);obtain⟨bb,bo,rfl,_,bl,bq⟩:=y1 (by omega);obtain⟨fb,fo,rfl,_,fl,fq⟩:=y2 (by omega);have c0:w.cell? ⟨cb,co+c,none⟩=some (.int .i64 (zbm d c)):=cq c (by omega);have b0:w.cell? ⟨bb,bo+s,none⟩=some (.int .i64 (zbl d s)):=bq s hs0;have f0:w.cell? ⟨fb,fo+s,none⟩=some (.int .i64 (zci d s)):=fq s (by omega);have i0:(0:Int)<=(s:Int):=by omega
 have i1:(s:Int)<(d.base.length:Int):=by omega
 have i2:(0:Int)<=(c:Int):=by omega
 have i3:(c:Int)<(d.classes.length:Int):=by omega
 have i4:(s:Int)<(d.dflt.length:Int):=by omega
 have H:Hid (zcb d s c=zci d s):=by show _=_;unfold zcb;rw[zv2 (fun k=>h k.1)]
 have i5:¬zbl d s+zbm d c<(d.chk.length:Int):=by omega
 clear y3 y4 y5 y6 cq bq fq hsl h;generalize zbl d s=x at *;generalize zbm d c=y at *;generalize zci d s=z at *
 go_enter Tryz.func30,Tryz.ntmps30
 go_wp2
 go_quiet (fail)
 go_wp2;go_ret;exact⟨zaR H.out.symm,below_drewN ((Below.refl _ _).alloc (zvJ _) _) _⟩
theorem znS(cv bv fv tv ev nv kv:Value)(d:TabD)(s c:Nat)(w:World)(hs:zbe lo w cv bv fv tv ev nv kv d)(hf:zbX d)(hs0:s<d.base.length)(hc:c<256)(h:za6 d s c<d.chk.length)(h2:¬zfC d (za6 d s c)=s):
  Calls Tryz.prog 30 #[.agg #[cv,.int .i64 d.width,bv,fv,tv,ev,nv,kv],.int .i64 s,.int .i64 c] w fun e w'=>e=.returned (.int .i64 (zcb d s c))/\Below w.heap.size w w':=by
 obtain⟨⟨a0,p0,rfl,m0,y0⟩,⟨a1,p1,rfl,m1,y1⟩,⟨a2,p2,rfl,m2,y2⟩,⟨a3,p3,rfl,m3,y3⟩,⟨a4,p4,rfl,m4,y4⟩,⟨a5,p5,rfl,m5,y5⟩,⟨a6,p6,rfl,m6,y6⟩⟩:=hs;have hcl:=hf.cl;have hn1:=hf.n1;have hn2:=hf.n2;have hdl:=hf.dl;have hnk:=hf.nk;have hnm:=hf.nm;obtain⟨x0,x1,z0,z1,hsl⟩:=hf.bd hs0 hc;obtain⟨cb,co,rfl,_,cl,cq⟩:=y0 (by omega);obtain⟨bb,bo,rfl,_,bl,bq⟩:=y1 (by omega);obtain⟨fb,fo,rfl,_,fl,fq⟩:=y2 (by omega);have c0:w.cell? ⟨cb,co+c,none⟩=some (.int .i64 (zbm d c)):=cq c (by omega);have b0:w.cell? ⟨bb,bo+s,none⟩=some (.int .i64 (zbl d s)):=bq s hs0;have f0:w.cell? ⟨fb,fo+s,none⟩=some (.int .i64 (zci d s)):=fq s (by omega);have i0:(0:Int)<=(s:Int):=by omega
 have i1:(s:Int)<(d.base.length:Int):=by omega
 have i2:(0:Int)<=(c:Int):=by omega
 have i3:(c:Int)<(d.classes.length:Int):=by omega
 have i4:(s:Int)<(d.dflt.length:Int):=by omega
 obtain⟨kb,ko,rfl,_,kl,kq⟩:=y6 (by omega);have k0:w.cell? ⟨kb,ko+(zbl d s+zbm d c).toNat,none⟩=some (.int .i64 (zfC d (za6 d s c))):=kq (za6 d s c) h;have i5:zbl d s+zbm d c<(d.chk.length:Int):=by omega
 have H:Hid (zcb d s c=zci d s):=by show _=_;unfold zcb;rw[zv2 (fun k=>h2 k.2)]
 clear y3 y4 y5 cq bq fq hsl h kq;generalize zfC d (za6 d s c)=q at *;generalize zbl d s=x at *;generalize zbm d c=y at *;generalize zci d s=z at *
 go_enter Tryz.func30,Tryz.ntmps30
 go_wp2
 go_quiet (fail)
 go_wp2;go_ret;exact⟨zaR H.out.symm,below_drewN ((Below.refl _ _).alloc (zvJ _) _) _⟩
theorem zrI(cv bv fv tv ev nv kv:Value)(d:TabD)(s c:Nat)(w:World)(hs:zbe lo w cv bv fv tv ev nv kv d)(hf:zbX d)(hs0:s<d.base.length)(hc:c<256)(h:za6 d s c<d.chk.length)(h2:zfC d (za6 d s c)=s):
  Calls Tryz.prog 30 #[.agg #[cv,.int .i64 d.width,bv,fv,tv,ev,nv,kv],.int .i64 s,.int .i64 c] w fun e w'=>e=.returned (.int .i64 (zcb d s c))/\Below w.heap.size w w':=by
 obtain⟨⟨a0,p0,rfl,m0,y0⟩,⟨a1,p1,rfl,m1,y1⟩,⟨a2,p2,rfl,m2,y2⟩,⟨a3,p3,rfl,m3,y3⟩,⟨a4,p4,rfl,m4,y4⟩,⟨a5,p5,rfl,m5,y5⟩,⟨a6,p6,rfl,m6,y6⟩⟩:=hs;have hcl:=hf.cl;have hn1:=hf.n1;have hn2:=hf.n2;have hdl:=hf.dl;have hnk:=hf.nk;have hnm:=hf.nm;obtain⟨x0,x1,z0,z1,hsl⟩:=hf.bd hs0 hc;obtain⟨cb,co,rfl,_,cl,cq⟩:=y0 (by omega);obtain⟨bb,bo,rfl,_,bl,bq⟩:=y1 (by omega);obtain⟨fb,fo,rfl,_,fl,fq⟩:=y2 (by omega);have c0:w.cell? ⟨cb,co+c,none⟩=some (.int .i64 (zbm d c)):=cq c (by omega);have b0:w.cell? ⟨bb,bo+s,none⟩=some (.int .i64 (zbl d s)):=bq s hs0;have f0:w.cell? ⟨fb,fo+s,none⟩=some (.int .i64 (zci d s)):=fq s (by omega);have i0:(0:Int)<=(s:Int):=by omega
 have i1:(s:Int)<(d.base.length:Int):=by omega
 have i2:(0:Int)<=(c:Int):=by omega
 have i3:(c:Int)<(d.classes.length:Int):=by omega
 have i4:(s:Int)<(d.dflt.length:Int):=by omega
 obtain⟨kb,ko,rfl,_,kl,kq⟩:=y6 (by omega);have k0:w.cell? ⟨kb,ko+(zbl d s+zbm d c).toNat,none⟩=some (.int .i64 (zfC d (za6 d s c))):=kq (za6 d s c) h;have i5:zbl d s+zbm d c<(d.chk.length:Int):=by omega
 obtain⟨nb,no,rfl,_,nl,nq⟩:=y5 (by omega);have n0:w.cell? ⟨nb,no+(zbl d s+zbm d c).toNat,none⟩=some (.int .i64 (zeh d (za6 d s c))):=nq (za6 d s c) (by omega);have i6:zbl d s+zbm d c<(d.next.length:Int):=by omega
 have H:Hid (zcb d s c=zeh d (za6 d s c)):=by show _=_;unfold zcb;rw[zv3 ⟨h,h2⟩]
 rw[h2] at k0;clear y3 y4 cq bq fq hsl h kq nq h2;generalize zeh d (za6 d s c)=q at *;generalize zbl d s=x at *;generalize zbm d c=y at *;generalize zci d s=z at *
 go_enter Tryz.func30,Tryz.ntmps30
 go_wp2
 go_quiet (fail)
 go_wp2;go_ret;exact⟨zaR H.out.symm,below_drewN ((Below.refl _ _).alloc (zvJ _) _) _⟩
theorem ztl(cv bv fv tv ev nv kv:Value)(d:TabD)(s c:Nat)(w:World)(hs:zbe lo w cv bv fv tv ev nv kv d)(hf:zbX d)(hs0:s<d.base.length)(hc:c<256):
  Calls Tryz.prog 30 #[.agg #[cv,.int .i64 d.width,bv,fv,tv,ev,nv,kv],.int .i64 s,.int .i64 c] w fun e w'=>e=.returned (.int .i64 (zcb d s c))/\Below w.heap.size w w':=by
 by_cases h:za6 d s c<d.chk.length
 ·by_cases h2:zfC d (za6 d s c)=s
  ·exact zrI cv bv fv tv ev nv kv d s c w hs hf hs0 hc h h2
  ·exact znS cv bv fv tv ev nv kv d s c w hs hf hs0 hc h h2
 ·exact zrH cv bv fv tv ev nv kv d s c w hs hf hs0 hc h
end
attribute [local go_sem ↓] Go.wp_at_zero Go.wp_at_succ
structure zbs where
 L:Int
 B:ByteArray
 C:Bool
 S:Int
 N:Int
def zbs.zero:zbs:=⟨0,⟨#[]⟩,false,0,0⟩
def zcq(s:zbs):Bool:=btw s.L 1 4096&&decide ((s.B.size:Int)<=s.L)&&btw s.N 0 s.B.size&&btw s.S 0 3999
theorem zkP(s:zbs)(left:Int)(w:World)(h0:0<=left)(h1:left<=1048576)(hB:s.B.size<=9223372036854775807):
  Calls Tryz.prog 6 #[.agg #[.int .i64 s.L,.string s.B,.bool s.C,.int .i64 s.S,.int .i64 s.N],.int .i64 left] w fun e w'=>e=.returned (.int .i64 (if left-s.B.size<0 then -1 else left-s.B.size))/\Below w.heap.size w w':=by
 by_cases h:left-s.B.size<0
 ·rw[zv3 h]
  go_enter Tryz.func6,Tryz.ntmps6
  go_wp2;go_ret;exact⟨rfl,(Below.refl _ _).alloc (zvJ _) _⟩
 ·rw[zv2 h]
  go_enter Tryz.func6,Tryz.ntmps6
  go_wp2;go_ret;exact⟨rfl,(Below.refl _ _).alloc (zvJ _) _⟩
theorem zei(s:zbs)(w:World):
  Calls Tryz.prog 9 #[.agg #[.int .i64 s.L,.string s.B,.bool s.C,.int .i64 s.S,.int .i64 s.N]] w fun e w'=>e=.returned (.agg #[.int .i64 s.L,.string s.B,.bool s.C,.int .i64 s.S,.int .i64 s.N])/\Below w.heap.size w w':=by
 go_enter Tryz.func9,Tryz.ntmps9
 go_wp2;exact zvV (v:=.agg #[.int .i64 s.L,.string s.B,.bool s.C,.int .i64 s.S,.int .i64 s.N]) (by simp[results,Tryz.results9,go_sem]) rfl ⟨rfl,(((Below.refl _ _).alloc (zvJ _) _).alloc (by simp) _).alloc (by simp;omega) _⟩
theorem zdV(s:zbs)(w:World):
  Calls Tryz.prog 11 #[.agg #[.int .i64 s.L,.string s.B,.bool s.C,.int .i64 s.S,.int .i64 s.N],.agg #[.int .i64 s.L,.string s.B,.bool s.C,.int .i64 s.S,.int .i64 s.N]] w fun e w'=>e=.returned (.bool true)/\Below w.heap.size w w':=by
 obtain⟨L,B,C,S,N⟩:=s;dsimp only;have e1:(L != L)=false:=by simp
 have e3:(C != C)=false:=by simp
 have e4:(S != S)=false:=by simp
 have e5:(N != N)=false:=by simp
 go_enter Tryz.func11,Tryz.ntmps11
 go_wp2;go_ret;exact⟨rfl,((Below.refl _ _).alloc (zvJ _) _).alloc (by simp) _⟩
theorem zez(s:zbs)(w:World):
  Calls Tryz.prog 29 #[.agg #[.int .i64 s.L,.string s.B,.bool s.C,.int .i64 s.S,.int .i64 s.N]] w fun e w'=>e=.returned (.bool (zcq s))/\Below w.heap.size w w':=by
 cases h1:btw s.L 1 4096
 ·have H:Hid (zcq s=false):=by show _=_;simp[zcq,h1]
  go_enter Tryz.func29,Tryz.ntmps29
  go_wp2_with (go_at_call 47;refine(zap _ _ _ _).mono ?_;rintro e w' ⟨rfl,rfl⟩)
  go_ret
  exact⟨zae H.out.symm,(Below.refl _ _).alloc (zvJ _) _⟩
 by_cases h2:(s.B.size:Int)<=s.L
 case neg=>
  have H:Hid (zcq s=false):=by show _=_;simp[zcq,h2]
  go_enter Tryz.func29,Tryz.ntmps29
  go_wp2_with (go_at_call 47;refine(zap _ _ _ _).mono ?_;rintro e w' ⟨rfl,rfl⟩)
  go_ret
  exact⟨zae H.out.symm,(Below.refl _ _).alloc (zvJ _) _⟩
 cases h3:btw s.N 0 s.B.size
 ·have H:Hid (zcq s=false):=by show _=_;simp[zcq,h3]
  go_enter Tryz.func29,Tryz.ntmps29
  go_wp2_with (go_at_call 47;refine(zap _ _ _ _).mono ?_;rintro e w' ⟨rfl,rfl⟩)
  go_ret
  exact⟨zae H.out.symm,(Below.refl _ _).alloc (zvJ _) _⟩
 have H:Hid (zcq s=btw s.S 0 3999):=by show _=_;simp[zcq,h1,h2,h3]
 go_enter Tryz.func29,Tryz.ntmps29
 go_wp2_with (go_at_call 47;refine(zap _ _ _ _).mono ?_;rintro e w' ⟨rfl,rfl⟩)
 go_ret
 exact⟨zae H.out.symm,(Below.refl _ _).alloc (zvJ _) _⟩
end Go.Proofs.YtdimhpfiieepiaaGreatDoor
