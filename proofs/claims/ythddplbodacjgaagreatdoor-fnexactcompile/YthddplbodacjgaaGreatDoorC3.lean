import Derived.Test.YthddplbodacjgaaGreatDoorC2
import Derived.Deep.QuietTactic
import Derived.BigQuiet
import Derived.Deep.WholeRow
import Derived.Laws.Tables
import Derived.Deep.RegionHeld3
import Derived.Deep.DrawnRows
namespace Go.Proofs.YthddplbodacjgaaGreatDoor
set_option maxHeartbeats 1000000
set_option maxRecDepth 100000
open Go.RowKit
theorem zh2{lo:Nat}(v:Value)(rs:List (Int×Int))(w:World)(hs:zan lo w v rs):
  Calls Tryz.prog 69 #[.agg #[.int .i64 1,v,.int .i64 0,.int .i64 0,.int .i64 0]] w fun e w'=>e=.returned (.bool (zbp 0 rs))/\Below w.heap.size w w':=by
 obtain⟨ao,cap,rfl,hm,hc⟩:=hs
 go_enter Tryz.func69,Tryz.ntmps69
 go_wp2
 go_loopw [59] (fun i wr=>∃k:Nat,k<=rs.length/\i=.int .i64 k/\∃L:Int,0<=L/\L<=257/\(k=0->L=0)/\(∀j,k=j+1->L=(rs.getD j (0,0)).2+2)/\Hid (zbp 0 rs=zbp L (rs.drop k))/\Below w.heap.size w wr/\wr.cell? ⟨w.heap.size,1,none⟩=some (.slice ao rs.length cap)/\w.heap.size<wr.heap.size)
  (fun i _=>rs.length-(intOf i).toNat)
 case atStart=>exact⟨0,zuL _,rfl,0,by omega,by omega,fun _=>rfl,fun j hj=>by omega,rfl,(Below.refl _ _).alloc (zuz _) _,by simp,by simp⟩
 case round=>
  obtain⟨k,hk,rfl,L,hL0,hL1,HL0,HL1,HS,hb,hbox,hsz⟩:=hrel;have Hl0:Hid (k=0->L=0):=HL0;have Hl1:Hid (∀j,k=j+1->L=(rs.getD j (0,0)).2+2):=HL1;clear HL0 HL1
  by_cases hlt:k<rs.length
  ·obtain⟨b,o,x,y,rfl,Hn,hbl,c0,c1⟩:=hc.elem hb hlt;have hz:=hb.size;have hba:Below w.heap.size w (wr.alloc (.cells #[.int .i64 x,.int .i64 y] 150)):=hb.alloc hz _;have hboxa:(wr.alloc (.cells #[.int .i64 x,.int .i64 y] 150)).cell? ⟨w.heap.size,1,none⟩=some (.slice (some ⟨b,o,none⟩) rs.length cap):=(World.cell?_of_block (Below.heap_alloc _ _ _ hsz)).trans hbox;have HD:Hid (zbp L (rs.drop k)=if x<L\/y<x\/255<y then false else zbp (y+2) (rs.drop (k+1))):=zfa rs k hlt L x y Hn.out
   by_cases h1:x<0
   ·go_wp2;go_ret;exact⟨zay (by rw[HS.out,HD.out,zuV (by omega)]),hba⟩
   by_cases h2:y<x
   ·go_wp2;go_ret;exact⟨zay (by rw[HS.out,HD.out,zuV (by omega)]),hba⟩
   by_cases h3:255<y
   ·go_wp2;go_ret;exact⟨zay (by rw[HS.out,HD.out,zuV (by omega)]),hba⟩
   by_cases hk0:k=0
   ·have hL:Hid (L=0):=Hl0.out hk0;have hd:decide ((0:Int)<(k:Int))=false:=by simp;omega
    have hd2:decide (0<k)=false:=by simp;omega
    have hd3:¬((0:Int)<(k:Int)):=by omega
    have Hk0:Hid (k=0):=hk0;clear hk0;go_wp2
    go_quiet (fail)
    go_wp2
    go_roundw
    case rel=>exact⟨k+1,by omega,by go_num,y+2,by omega,by omega,fun h=>by omega,fun j hj=>by rw[show j=k by omega,Hn.out],by show _=_;rw[HS.out,HD.out,zuU (by have:=hL.out;omega)],below_drewN hba _,hboxa,by simp;omega⟩
    case measure=>simp[intOf];omega
   ·obtain⟨j,rfl⟩:∃j,k=j+1:=⟨k-1,by omega⟩;obtain⟨b',o',x',y',hao,Hn',hbl',d0,d1⟩:=hc.elem hb (show j<rs.length by omega);simp only[Option.some.injEq,Addr.mk.injEq,and_true] at hao;obtain⟨rfl,rfl⟩:=hao;have hL:=Hl1.out j rfl;rw[Hn'.out] at hL;have hL':Hid (L=y'+2):=hL;have hy1:y'<=255:=by simp only at hL;omega
    have hy0:-2<=y':=by simp only at hL;omega
    clear hL;have hd:(0:Int)<(j:Int)+1:=by omega
    have hd1:decide ((0:Int)<(j:Int)+1)=true:=by simp
    have hwj:IntKind.i64.wrap (j:Int)=(j:Int):=by rw[IntKind.wrap_i64];omega
    have hwy:IntKind.i64.wrap (y'+2)=y'+2:=by rw[IntKind.wrap_i64];omega
    have hbr:b<wr.heap.size:=by omega
    have hj0:(0:Int)<=(j:Int):=by omega
    have hj1:(j:Int)<(rs.length:Int):=by omega
    by_cases h4:x<y'+2
    ·go_wp2
     go_quiet (fail)
     go_wp2;go_ret;exact⟨zay (by rw[HS.out,HD.out,zuV (by have:=hL'.out;omega)]),below_drewN hba _⟩
    ·go_wp2
     go_quiet (fail)
     go_wp2
     go_roundw
     case rel=>exact⟨j+1+1,by omega,by go_num,y+2,by omega,by omega,fun h=>by omega,fun i hi=>by rw[show i=j+1 by omega,Hn.out],by show _=_;rw[HS.out,HD.out,zuU (by have:=hL'.out;omega)],below_drewN hba _,hboxa,by simp;omega⟩
     case measure=>simp[intOf];omega
  ·go_wp2;go_ret;exact⟨zay (by rw[HS.out,ztH (by omega)];rfl),hb⟩
section
variable {lo:Nat}
theorem zgV(mn mx g:Int)(v:Value)(rs:List (Int×Int))(w:World)(hs:zan lo w v rs)(hg:(g==0)=false):
  Calls Tryz.prog 69 #[.agg #[.int .i64 1,v,.int .i64 mn,.int .i64 mx,.int .i64 g]] w fun e w'=>e=.returned (.bool false)/\Below w.heap.size w w':=by
 obtain⟨ao,cap,rfl,hm,hc⟩:=hs;clear hc
 go_enter Tryz.func69,Tryz.ntmps69
 go_wp2_with (go_at_call 14;refine(zaw _ _ _ _).mono ?_;rintro e w' ⟨rfl,rfl⟩)
 all_goals
  go_ret
  exact⟨rfl,(Below.refl _ _).alloc (zuz _) _⟩
theorem zgY(mn mx:Int)(v:Value)(rs:List (Int×Int))(w:World)(hs:zan lo w v rs)(hn:(mn==0)=false):
  Calls Tryz.prog 69 #[.agg #[.int .i64 1,v,.int .i64 mn,.int .i64 mx,.int .i64 0]] w fun e w'=>e=.returned (.bool false)/\Below w.heap.size w w':=by
 obtain⟨ao,cap,rfl,hm,hc⟩:=hs;clear hc
 go_enter Tryz.func69,Tryz.ntmps69
 go_wp2_with (go_at_call 14;refine(zaw _ _ _ _).mono ?_;rintro e w' ⟨rfl,rfl⟩)
 all_goals
  go_ret
  exact⟨rfl,(Below.refl _ _).alloc (zuz _) _⟩
theorem zgW(mx:Int)(v:Value)(rs:List (Int×Int))(w:World)(hs:zan lo w v rs)(hn:(mx==0)=false):
  Calls Tryz.prog 69 #[.agg #[.int .i64 1,v,.int .i64 0,.int .i64 mx,.int .i64 0]] w fun e w'=>e=.returned (.bool false)/\Below w.heap.size w w':=by
 obtain⟨ao,cap,rfl,hm,hc⟩:=hs;clear hc
 go_enter Tryz.func69,Tryz.ntmps69
 go_wp2_with (go_at_call 14;refine(zaw _ _ _ _).mono ?_;rintro e w' ⟨rfl,rfl⟩)
 all_goals
  go_ret
  exact⟨rfl,(Below.refl _ _).alloc (zuz _) _⟩
theorem zlf(mn mx g:Int)(v:Value)(rs:List (Int×Int))(w:World)(hs:zan lo w v rs)(hl:((rs.length:Int)==0)=false):
  Calls Tryz.prog 69 #[.agg #[.int .i64 2,v,.int .i64 mn,.int .i64 mx,.int .i64 g]] w fun e w'=>e=.returned (.bool false)/\Below w.heap.size w w':=by
 obtain⟨ao,cap,rfl,hm,hc⟩:=hs;clear hc
 go_enter Tryz.func69,Tryz.ntmps69
 go_wp2_with (go_at_call 14;refine(zaw _ _ _ _).mono ?_;rintro e w' ⟨rfl,rfl⟩)
 all_goals
  go_ret
  exact⟨rfl,(Below.refl _ _).alloc (zuz _) _⟩
theorem zlb(mn mx g:Int)(v:Value)(rs:List (Int×Int))(w:World)(hs:zan lo w v rs)(hl:((rs.length:Int)==0)=true)(hg:(g==0)=false):
  Calls Tryz.prog 69 #[.agg #[.int .i64 2,v,.int .i64 mn,.int .i64 mx,.int .i64 g]] w fun e w'=>e=.returned (.bool false)/\Below w.heap.size w w':=by
 obtain⟨ao,cap,rfl,hm,hc⟩:=hs;clear hc
 go_enter Tryz.func69,Tryz.ntmps69
 go_wp2_with (go_at_call 14;refine(zaw _ _ _ _).mono ?_;rintro e w' ⟨rfl,rfl⟩)
 all_goals
  go_ret
  exact⟨rfl,(Below.refl _ _).alloc (zuz _) _⟩
theorem zll(mn mx:Int)(v:Value)(rs:List (Int×Int))(w:World)(hs:zan lo w v rs)(hl:((rs.length:Int)==0)=true)(hn:(mn==0)=false):
  Calls Tryz.prog 69 #[.agg #[.int .i64 2,v,.int .i64 mn,.int .i64 mx,.int .i64 0]] w fun e w'=>e=.returned (.bool false)/\Below w.heap.size w w':=by
 obtain⟨ao,cap,rfl,hm,hc⟩:=hs;clear hc
 go_enter Tryz.func69,Tryz.ntmps69
 go_wp2_with (go_at_call 14;refine(zaw _ _ _ _).mono ?_;rintro e w' ⟨rfl,rfl⟩)
 all_goals
  go_ret
  exact⟨rfl,(Below.refl _ _).alloc (zuz _) _⟩
theorem zlj(mx:Int)(v:Value)(rs:List (Int×Int))(w:World)(hs:zan lo w v rs)(hl:((rs.length:Int)==0)=true)(hn:(mx==0)=false):
  Calls Tryz.prog 69 #[.agg #[.int .i64 2,v,.int .i64 0,.int .i64 mx,.int .i64 0]] w fun e w'=>e=.returned (.bool false)/\Below w.heap.size w w':=by
 obtain⟨ao,cap,rfl,hm,hc⟩:=hs;clear hc
 go_enter Tryz.func69,Tryz.ntmps69
 go_wp2_with (go_at_call 14;refine(zaw _ _ _ _).mono ?_;rintro e w' ⟨rfl,rfl⟩)
 all_goals
  go_ret
  exact⟨rfl,(Below.refl _ _).alloc (zuz _) _⟩
theorem zlg(mn mx g:Int)(v:Value)(rs:List (Int×Int))(w:World)(hs:zan lo w v rs)(hl:((rs.length:Int)==0)=false):
  Calls Tryz.prog 69 #[.agg #[.int .i64 3,v,.int .i64 mn,.int .i64 mx,.int .i64 g]] w fun e w'=>e=.returned (.bool false)/\Below w.heap.size w w':=by
 obtain⟨ao,cap,rfl,hm,hc⟩:=hs;clear hc
 go_enter Tryz.func69,Tryz.ntmps69
 go_wp2_with (go_at_call 14;refine(zaw _ _ _ _).mono ?_;rintro e w' ⟨rfl,rfl⟩)
 all_goals
  go_ret
  exact⟨rfl,(Below.refl _ _).alloc (zuz _) _⟩
theorem zlc(mn mx g:Int)(v:Value)(rs:List (Int×Int))(w:World)(hs:zan lo w v rs)(hl:((rs.length:Int)==0)=true)(hg:(g==0)=false):
  Calls Tryz.prog 69 #[.agg #[.int .i64 3,v,.int .i64 mn,.int .i64 mx,.int .i64 g]] w fun e w'=>e=.returned (.bool false)/\Below w.heap.size w w':=by
 obtain⟨ao,cap,rfl,hm,hc⟩:=hs;clear hc
 go_enter Tryz.func69,Tryz.ntmps69
 go_wp2_with (go_at_call 14;refine(zaw _ _ _ _).mono ?_;rintro e w' ⟨rfl,rfl⟩)
 all_goals
  go_ret
  exact⟨rfl,(Below.refl _ _).alloc (zuz _) _⟩
theorem zlm(mn mx:Int)(v:Value)(rs:List (Int×Int))(w:World)(hs:zan lo w v rs)(hl:((rs.length:Int)==0)=true)(hn:(mn==0)=false):
  Calls Tryz.prog 69 #[.agg #[.int .i64 3,v,.int .i64 mn,.int .i64 mx,.int .i64 0]] w fun e w'=>e=.returned (.bool false)/\Below w.heap.size w w':=by
 obtain⟨ao,cap,rfl,hm,hc⟩:=hs;clear hc
 go_enter Tryz.func69,Tryz.ntmps69
 go_wp2_with (go_at_call 14;refine(zaw _ _ _ _).mono ?_;rintro e w' ⟨rfl,rfl⟩)
 all_goals
  go_ret
  exact⟨rfl,(Below.refl _ _).alloc (zuz _) _⟩
theorem zlk(mx:Int)(v:Value)(rs:List (Int×Int))(w:World)(hs:zan lo w v rs)(hl:((rs.length:Int)==0)=true)(hn:(mx==0)=false):
  Calls Tryz.prog 69 #[.agg #[.int .i64 3,v,.int .i64 0,.int .i64 mx,.int .i64 0]] w fun e w'=>e=.returned (.bool false)/\Below w.heap.size w w':=by
 obtain⟨ao,cap,rfl,hm,hc⟩:=hs;clear hc
 go_enter Tryz.func69,Tryz.ntmps69
 go_wp2_with (go_at_call 14;refine(zaw _ _ _ _).mono ?_;rintro e w' ⟨rfl,rfl⟩)
 all_goals
  go_ret
  exact⟨rfl,(Below.refl _ _).alloc (zuz _) _⟩
theorem zlh(mn mx g:Int)(v:Value)(rs:List (Int×Int))(w:World)(hs:zan lo w v rs)(hl:((rs.length:Int)==0)=false):
  Calls Tryz.prog 69 #[.agg #[.int .i64 4,v,.int .i64 mn,.int .i64 mx,.int .i64 g]] w fun e w'=>e=.returned (.bool false)/\Below w.heap.size w w':=by
 obtain⟨ao,cap,rfl,hm,hc⟩:=hs;clear hc
 go_enter Tryz.func69,Tryz.ntmps69
 go_wp2_with (go_at_call 14;refine(zaw _ _ _ _).mono ?_;rintro e w' ⟨rfl,rfl⟩)
 all_goals
  go_ret
  exact⟨rfl,(Below.refl _ _).alloc (zuz _) _⟩
theorem zld(mn mx g:Int)(v:Value)(rs:List (Int×Int))(w:World)(hs:zan lo w v rs)(hl:((rs.length:Int)==0)=true)(hg:(g==0)=false):
  Calls Tryz.prog 69 #[.agg #[.int .i64 4,v,.int .i64 mn,.int .i64 mx,.int .i64 g]] w fun e w'=>e=.returned (.bool false)/\Below w.heap.size w w':=by
 obtain⟨ao,cap,rfl,hm,hc⟩:=hs;clear hc
 go_enter Tryz.func69,Tryz.ntmps69
 go_wp2_with (go_at_call 14;refine(zaw _ _ _ _).mono ?_;rintro e w' ⟨rfl,rfl⟩)
 all_goals
  go_ret
  exact⟨rfl,(Below.refl _ _).alloc (zuz _) _⟩
theorem zli(mn mx g:Int)(v:Value)(rs:List (Int×Int))(w:World)(hs:zan lo w v rs)(hl:((rs.length:Int)==0)=false):
  Calls Tryz.prog 69 #[.agg #[.int .i64 5,v,.int .i64 mn,.int .i64 mx,.int .i64 g]] w fun e w'=>e=.returned (.bool false)/\Below w.heap.size w w':=by
 obtain⟨ao,cap,rfl,hm,hc⟩:=hs;clear hc
 go_enter Tryz.func69,Tryz.ntmps69
 go_wp2_with (go_at_call 14;refine(zaw _ _ _ _).mono ?_;rintro e w' ⟨rfl,rfl⟩)
 all_goals
  go_ret
  exact⟨rfl,(Below.refl _ _).alloc (zuz _) _⟩
theorem zgZ(mn mx g:Int)(v:Value)(rs:List (Int×Int))(w:World)(hs:zan lo w v rs)(hl:((rs.length:Int)==0)=true)(hn:(mn==0)=false):
  Calls Tryz.prog 69 #[.agg #[.int .i64 5,v,.int .i64 mn,.int .i64 mx,.int .i64 g]] w fun e w'=>e=.returned (.bool false)/\Below w.heap.size w w':=by
 obtain⟨ao,cap,rfl,hm,hc⟩:=hs;clear hc
 go_enter Tryz.func69,Tryz.ntmps69
 go_wp2_with (go_at_call 14;refine(zaw _ _ _ _).mono ?_;rintro e w' ⟨rfl,rfl⟩)
 all_goals
  go_ret
  exact⟨rfl,(Below.refl _ _).alloc (zuz _) _⟩
theorem zgX(mx g:Int)(v:Value)(rs:List (Int×Int))(w:World)(hs:zan lo w v rs)(hl:((rs.length:Int)==0)=true)(hn:(mx==0)=false):
  Calls Tryz.prog 69 #[.agg #[.int .i64 5,v,.int .i64 0,.int .i64 mx,.int .i64 g]] w fun e w'=>e=.returned (.bool false)/\Below w.heap.size w w':=by
 obtain⟨ao,cap,rfl,hm,hc⟩:=hs;clear hc
 go_enter Tryz.func69,Tryz.ntmps69
 go_wp2_with (go_at_call 14;refine(zaw _ _ _ _).mono ?_;rintro e w' ⟨rfl,rfl⟩)
 all_goals
  go_ret
  exact⟨rfl,(Below.refl _ _).alloc (zuz _) _⟩
theorem zjW(v:Value)(rs:List (Int×Int))(w:World)(hs:zan lo w v rs)(hl:((rs.length:Int)==0)=true):
  Calls Tryz.prog 69 #[.agg #[.int .i64 2,v,.int .i64 0,.int .i64 0,.int .i64 0]] w fun e w'=>e=.returned (.bool true)/\Below w.heap.size w w':=by
 obtain⟨ao,cap,rfl,hm,hc⟩:=hs;clear hc;have hl0:rs.length=0:=by have:=eq_of_beq hl;omega
 rw[hl0];clear hl hm
 go_enter Tryz.func69,Tryz.ntmps69
 go_wp2_with (go_at_call 14;refine(zaw _ _ _ _).mono ?_;rintro e w' ⟨rfl,rfl⟩)
 refine wp_loop_rounds 1 ?_;rw[rounds_succ];go_wp2;go_ret;exact⟨rfl,(Below.refl _ _).alloc (zuz _) _⟩
theorem zjX(v:Value)(rs:List (Int×Int))(w:World)(hs:zan lo w v rs)(hl:((rs.length:Int)==0)=true):
  Calls Tryz.prog 69 #[.agg #[.int .i64 3,v,.int .i64 0,.int .i64 0,.int .i64 0]] w fun e w'=>e=.returned (.bool true)/\Below w.heap.size w w':=by
 obtain⟨ao,cap,rfl,hm,hc⟩:=hs;clear hc;have hl0:rs.length=0:=by have:=eq_of_beq hl;omega
 rw[hl0];clear hl hm
 go_enter Tryz.func69,Tryz.ntmps69
 go_wp2_with (go_at_call 14;refine(zaw _ _ _ _).mono ?_;rintro e w' ⟨rfl,rfl⟩)
 refine wp_loop_rounds 1 ?_;rw[rounds_succ];go_wp2;go_ret;exact⟨rfl,(Below.refl _ _).alloc (zuz _) _⟩
theorem zfT(g:Int)(v:Value)(rs:List (Int×Int))(w:World)(hs:zan lo w v rs)(hl:((rs.length:Int)==0)=true):
  Calls Tryz.prog 69 #[.agg #[.int .i64 5,v,.int .i64 0,.int .i64 0,.int .i64 g]] w fun e w'=>e=.returned (.bool true)/\Below w.heap.size w w':=by
 obtain⟨ao,cap,rfl,hm,hc⟩:=hs;clear hc;have hl0:rs.length=0:=by have:=eq_of_beq hl;omega
 rw[hl0];clear hl hm
 go_enter Tryz.func69,Tryz.ntmps69
 go_wp2_with (go_at_call 14;refine(zaw _ _ _ _).mono ?_;rintro e w' ⟨rfl,rfl⟩)
 refine wp_loop_rounds 1 ?_;rw[rounds_succ];go_wp2;go_ret;exact⟨rfl,(Below.refl _ _).alloc (zuz _) _⟩
theorem zla(mn mx:Int)(v:Value)(rs:List (Int×Int))(w:World)(hs:zan lo w v rs)(hl:((rs.length:Int)==0)=true)(hb:btw mn 0 255=false):
  Calls Tryz.prog 69 #[.agg #[.int .i64 4,v,.int .i64 mn,.int .i64 mx,.int .i64 0]] w fun e w'=>e=.returned (.bool false)/\Below w.heap.size w w':=by
 obtain⟨ao,cap,rfl,hm,hc⟩:=hs;clear hc
 go_enter Tryz.func69,Tryz.ntmps69
 go_wp2_with (go_at_call 14;refine(zaw _ _ _ _).mono ?_;rintro e w' ⟨rfl,rfl⟩)
 all_goals
  go_ret
  exact⟨rfl,(Below.refl _ _).alloc (zuz _) _⟩
theorem zgU(mn mx:Int)(v:Value)(rs:List (Int×Int))(w:World)(hs:zan lo w v rs)(hl:((rs.length:Int)==0)=true)(hb:btw mn 0 255=true)(hx2:(mx != -1)=true)(hb2:btw mx mn 255=false):
  Calls Tryz.prog 69 #[.agg #[.int .i64 4,v,.int .i64 mn,.int .i64 mx,.int .i64 0]] w fun e w'=>e=.returned (.bool false)/\Below w.heap.size w w':=by
 obtain⟨ao,cap,rfl,hm,hc⟩:=hs;clear hc
 go_enter Tryz.func69,Tryz.ntmps69
 go_wp2_with (go_at_call 14;refine(zaw _ _ _ _).mono ?_;rintro e w' ⟨rfl,rfl⟩)
 all_goals
  go_ret
  exact⟨rfl,(Below.refl _ _).alloc (zuz _) _⟩
theorem zfS(mn:Int)(v:Value)(rs:List (Int×Int))(w:World)(hs:zan lo w v rs)(hl:((rs.length:Int)==0)=true)(hb:btw mn 0 255=true):
  Calls Tryz.prog 69 #[.agg #[.int .i64 4,v,.int .i64 mn,.int .i64 (-1),.int .i64 0]] w fun e w'=>e=.returned (.bool true)/\Below w.heap.size w w':=by
 obtain⟨ao,cap,rfl,hm,hc⟩:=hs;clear hc;have hl0:rs.length=0:=by have:=eq_of_beq hl;omega
 rw[hl0];clear hl hm
 go_enter Tryz.func69,Tryz.ntmps69
 go_wp2_with (go_at_call 14;refine(zaw _ _ _ _).mono ?_;rintro e w' ⟨rfl,rfl⟩)
 refine wp_loop_rounds 1 ?_;rw[rounds_succ];go_wp2;go_ret;exact⟨rfl,(Below.refl _ _).alloc (zuz _) _⟩
theorem zep(mn mx:Int)(v:Value)(rs:List (Int×Int))(w:World)(hs:zan lo w v rs)(hl:((rs.length:Int)==0)=true)(hb:btw mn 0 255=true)(hx2:(mx != -1)=true)(hb2:btw mx mn 255=true):
  Calls Tryz.prog 69 #[.agg #[.int .i64 4,v,.int .i64 mn,.int .i64 mx,.int .i64 0]] w fun e w'=>e=.returned (.bool true)/\Below w.heap.size w w':=by
 obtain⟨ao,cap,rfl,hm,hc⟩:=hs;clear hc;have hl0:rs.length=0:=by have:=eq_of_beq hl;omega
 rw[hl0];clear hl hm
 go_enter Tryz.func69,Tryz.ntmps69
 go_wp2_with (go_at_call 14;refine(zaw _ _ _ _).mono ?_;rintro e w' ⟨rfl,rfl⟩)
 refine wp_loop_rounds 1 ?_;rw[rounds_succ];go_wp2;go_ret;exact⟨rfl,(Below.refl _ _).alloc (zuz _) _⟩
theorem znr(k mn mx g:Int)(v:Value)(rs:List (Int×Int))(w:World)(hs:zan lo w v rs)(hk:k<1):
  Calls Tryz.prog 69 #[.agg #[.int .i64 k,v,.int .i64 mn,.int .i64 mx,.int .i64 g]] w fun e w'=>e=.returned (.bool false)/\Below w.heap.size w w':=by
 obtain⟨ao,cap,rfl,hm,hc⟩:=hs;clear hc
 go_enter Tryz.func69,Tryz.ntmps69
 go_wp2_with (go_at_call 14;refine(zaw _ _ _ _).mono ?_;rintro e w' ⟨rfl,rfl⟩)
 all_goals
  go_ret
  exact⟨rfl,(Below.refl _ _).alloc (zuz _) _⟩
theorem zle(k mn mx g:Int)(v:Value)(rs:List (Int×Int))(w:World)(hs:zan lo w v rs)(hk:5<k):
  Calls Tryz.prog 69 #[.agg #[.int .i64 k,v,.int .i64 mn,.int .i64 mx,.int .i64 g]] w fun e w'=>e=.returned (.bool false)/\Below w.heap.size w w':=by
 obtain⟨ao,cap,rfl,hm,hc⟩:=hs;clear hc
 go_enter Tryz.func69,Tryz.ntmps69
 go_wp2_with (go_at_call 14;refine(zaw _ _ _ _).mono ?_;rintro e w' ⟨rfl,rfl⟩)
 all_goals
  go_ret
  exact⟨rfl,(Below.refl _ _).alloc (zuz _) _⟩
end
theorem zjV{lo:Nat}(k mn mx g:Int)(v:Value)(rs:List (Int×Int))(w:World)(hs:zan lo w v rs):
  Calls Tryz.prog 69 #[.agg #[.int .i64 k,v,.int .i64 mn,.int .i64 mx,.int .i64 g]] w fun e w'=>e=.returned (.bool (zaK ⟨k,rs,mn,mx,g⟩))/\Below w.heap.size w w':=by
 have fin:∀{b:Bool},zaK ⟨k,rs,mn,mx,g⟩=b->∀(e:Ending) (w':World),(e=.returned (.bool b)/\Below w.heap.size w w')->(e=.returned (.bool (zaK ⟨k,rs,mn,mx,g⟩))/\Below w.heap.size w w'):=by
  intro b hb e w' h;rw[hb];exact h
 by_cases hlow:k<1
 ·exact(znr k mn mx g v rs w hs hlow).mono (fin (by unfold zaK;rw[zuU (by simp only;omega),zuU (by simp only;omega),zuU (by simp only;omega),zuU (by simp only;omega)]))
 by_cases hhigh:5<k
 ·exact(zle k mn mx g v rs w hs hhigh).mono (fin (by unfold zaK;rw[zuU (by simp only;omega),zuU (by simp only;omega),zuU (by simp only;omega),zuU (by simp only;omega)]))
 have hk:k=1\/k=2\/k=3\/k=4\/k=5:=by omega
 clear hlow hhigh
 by_cases hl:((rs.length:Int)==0)=true
 ·by_cases hg:g=0
  ·subst hg
   by_cases hn:mn=0
   ·by_cases hx:mx=0
    ·subst hn hx;rcases hk with rfl|rfl|rfl|rfl|rfl
     ·exact(zh2 v rs w hs).mono (fin (by simp[zaK]))
     ·exact(zjW v rs w hs hl).mono (fin (by simp[zaK];exact ztK (by have:=eq_of_beq hl;omega)))
     ·exact(zjX v rs w hs hl).mono (fin (by simp[zaK];exact ztK (by have:=eq_of_beq hl;omega)))
     ·exact(zep 0 0 v rs w hs hl (by decide) (by decide) (by decide)).mono (fin (by simp[zaK,zaY];exact ztK (by have:=eq_of_beq hl;omega)))
     ·exact(zfT 0 v rs w hs hl).mono (fin (by simp[zaK];exact ztK (by have:=eq_of_beq hl;omega)))
    ·subst hn;have hx':(mx==0)=false:=zuM.2 hx;rcases hk with rfl|rfl|rfl|rfl|rfl
     ·exact(zgW mx v rs w hs hx').mono (fin (by simp[zaK,hx]))
     ·exact(zlj mx v rs w hs hl hx').mono (fin (by simp[zaK,hx]))
     ·exact(zlk mx v rs w hs hl hx').mono (fin (by simp[zaK,hx]))
     ·by_cases h1:mx=-1
      ·subst h1;exact(zfS 0 v rs w hs hl (by decide)).mono (fin (by simp[zaK,zaY];exact ztK (by have:=eq_of_beq hl;omega)))
      ·by_cases h2:btw mx 0 255=true
       ·exact(zep 0 mx v rs w hs hl (by decide) (by simp[h1]) h2).mono (fin (by simp[zaK,zaY,h1] at *;simp[btw] at h2;exact⟨hl,h2⟩))
       ·exact(zgU 0 mx v rs w hs hl (by decide) (by simp[h1]) (by simpa using h2)).mono (fin (by simp[zaK,zaY,h1];intro _;simp[btw] at h2;omega))
     ·exact(zgX mx 0 v rs w hs hl hx').mono (fin (by simp[zaK,hx]))
   ·have hn':(mn==0)=false:=zuM.2 hn;rcases hk with rfl|rfl|rfl|rfl|rfl
    ·exact(zgY mn mx v rs w hs hn').mono (fin (by simp[zaK,hn]))
    ·exact(zll mn mx v rs w hs hl hn').mono (fin (by simp[zaK,hn]))
    ·exact(zlm mn mx v rs w hs hl hn').mono (fin (by simp[zaK,hn]))
    ·by_cases h0:btw mn 0 255=true
     ·by_cases h1:mx=-1
      ·subst h1;exact(zfS mn v rs w hs hl h0).mono (fin (by simp[zaK,zaY] at *;simp[btw] at h0;exact⟨hl,h0⟩))
      ·by_cases h2:btw mx mn 255=true
       ·exact(zep mn mx v rs w hs hl h0 (by simp[h1]) h2).mono (fin (by simp[zaK,zaY,h1] at *;simp[btw] at h0 h2;exact⟨hl,h0,h2⟩))
       ·exact(zgU mn mx v rs w hs hl h0 (by simp[h1]) (by simpa using h2)).mono (fin (by simp[zaK,zaY,h1];intro _ _ _;simp[btw] at h2;omega))
     ·exact(zla mn mx v rs w hs hl (by simpa using h0)).mono (fin (by simp[zaK,zaY];simp[btw] at h0;intro _ _;omega))
    ·exact(zgZ mn mx 0 v rs w hs hl hn').mono (fin (by simp[zaK,hn]))
  ·have hg':(g==0)=false:=zuM.2 hg;rcases hk with rfl|rfl|rfl|rfl|rfl
   ·exact(zgV mn mx g v rs w hs hg').mono (fin (by simp[zaK,hg]))
   ·exact(zlb mn mx g v rs w hs hl hg').mono (fin (by simp[zaK,hg]))
   ·exact(zlc mn mx g v rs w hs hl hg').mono (fin (by simp[zaK,hg]))
   ·exact(zld mn mx g v rs w hs hl hg').mono (fin (by simp[zaK,hg]))
   ·by_cases hn:mn=0
    ·subst hn
     by_cases hx:mx=0
     ·subst hx;exact(zfT g v rs w hs hl).mono (fin (by simp[zaK];exact ztK (by have:=eq_of_beq hl;omega)))
     ·exact(zgX mx g v rs w hs hl (zuM.2 hx)).mono (fin (by simp[zaK,hx]))
    ·exact(zgZ mn mx g v rs w hs hl (zuM.2 hn)).mono (fin (by simp[zaK,hn]))
 ·have hl':((rs.length:Int)==0)=false:=by simpa using hl
  rcases hk with rfl|rfl|rfl|rfl|rfl
  ·by_cases hg:g=0
   ·subst hg
    by_cases hn:mn=0
    ·subst hn
     by_cases hx:mx=0
     ·subst hx;exact(zh2 v rs w hs).mono (fin (by simp[zaK]))
     ·exact(zgW mx v rs w hs (zuM.2 hx)).mono (fin (by simp[zaK,hx]))
    ·exact(zgY mn mx v rs w hs (zuM.2 hn)).mono (fin (by simp[zaK,hn]))
   ·exact(zgV mn mx g v rs w hs (zuM.2 hg)).mono (fin (by simp[zaK,hg]))
  ·exact(zlf mn mx g v rs w hs hl').mono (fin (by simp[zaK,hl']))
  ·exact(zlg mn mx g v rs w hs hl').mono (fin (by simp[zaK,hl']))
  ·exact(zlh mn mx g v rs w hs hl').mono (fin (by simp[zaK,hl']))
  ·exact(zli mn mx g v rs w hs hl').mono (fin (by simp[zaK,hl']))
def zaz(f:Nat->Bool):Array Value:=((List.range 256).map fun c=>Value.bool (f c)).toArray
theorem zaG(f:Nat->Bool):(zaz f).size=256:=by simp[zaz]
theorem zdq(f:Nat->Bool)(i:Nat)(h:i<256):(zaz f)[i]?=some (.bool (f i)):=by simp[zaz,h]
theorem zeo{f g:Nat->Bool}(h:∀c,c<256->f c=g c):zaz f=zaz g:=by
 unfold zaz;rw[zua fun c hc=>by rw[h c (by simpa using hc)]]
theorem zjM(f:Nat->Bool)(i:Nat):(zaz f).setIfInBounds i (.bool true)=zaz (fun c=>f c || c==i):=by
 apply ztn
 intro j;rw[ztq,zaG]
 by_cases hj:j<256
 ·rw[zdq _ _ hj,zdq _ _ hj]
  by_cases e:i=j
  ·subst e;simp[hj]
  ·have e':(j==i)=false:=by simp;omega
   simp[e,e']
 ·have h1:∀g,(zaz g)[j]?=none:=fun g=>zto (by rw[zaG];omega)
  rw[h1,h1];split<;>simp_all
theorem zcN(f:Nat->Bool):(zaz f).all (·.oneCell')=true:=by
 simp[zaz,Value.oneCell']
def zen(f:Nat->Bool)(l k:Nat):Nat->Bool:=fun c=>f c || decide (l<=c/\c<k)
theorem zk6(f:Nat->Bool)(l k:Nat)(hk:l<=k):zaz (fun c=>zen f l k c || c==k)=zaz (zen f l (k+1)):=by
 apply zeo
 intro c _;unfold zen;rw[ztv]
 congr 1
 by_cases e:c=k
 ·subst e;simp[hk]
 ·have e':(c==k)=false:=zuM.2 e;rw[e',ztx,decide_eq_decide];omega
theorem zk7(f:Nat->Bool)(l:Nat):zaz (zen f l l)=zaz f:=zeo fun c _=>by
 unfold zen;have:decide (l<=c/\c<l)=false:=by rw[decide_eq_false_iff_not];omega
 rw[this,ztx]
def zgS(f:Nat->Bool)(lo hi:Int):Nat->Bool:=fun c=>f c || decide (lo<=c/\(c:Int)<=hi)
theorem znc(f:Nat->Bool)(l k:Nat)(hi:Int)(h:k=l\/(k:Int)<=hi+1)(h2:hi<k):zaz (zen f l k)=zaz (zgS f l hi):=zeo fun c _=>by
 unfold zen zgS
 congr 1
 rw[decide_eq_decide];omega
theorem Tryz.zeroMarks:(Tryz.prog.info? 213).map (fun i=>(i.zero,i.size))=some (some (.agg (zaz fun _=>false)),256):=by kernel_rfl
theorem zsN(f:Nat->Bool)(lo hi:Int)(w:World)(h0:0<=lo)(h1:hi<=255):
  Calls Tryz.prog 124 #[.agg (zaz f),.int .i64 lo,.int .i64 hi] w fun e w'=>e=.returned (.agg (zaz (zgS f lo hi)))/\Below w.heap.size w w':=by
 obtain⟨l,rfl⟩:=Int.eq_ofNat_of_zero_le h0;have hzv:=(zero_of_info Tryz.zeroMarks).1;have hzi:Hid _:=(zero_of_info Tryz.zeroMarks).2
 go_enter Tryz.func124,Tryz.ntmps124
 go_wp2
 go_loopw [7] (fun i wr=>∃k:Nat,l<=k/\(k=l\/(k:Int)<=hi+1)/\i=.int .i64 k/\Below w.heap.size w wr/\wr.heap[w.heap.size]?=some (.cells (zaz (zen f l k)) 213 (0,0))/\wr.heap[w.heap.size+1]?=some (.cells (zaz fun _=>false) 213 (0,0))/\w.heap.size+1<wr.heap.size)
  (fun i _=>(hi+1-intOf i).toNat)
 case atStart=>exact⟨l,zuz _,.inl rfl,rfl,((Below.refl _ _).alloc (zuz _) _).alloc (by simp) _,by rw[heap_alloc2_old,zk7],heap_alloc2_new _ _ _,by simp⟩
 case round=>
  obtain⟨k,hk,hk2,rfl,hb,hr0,hr1,hsz⟩:=hrel
  by_cases hlt:(k:Int)<=hi
  ·have hk3:k<256:=by omega
   have c0:wr.cell? ⟨w.heap.size,k,none⟩=some (.bool (zen f l k k)):=by rw[zuO _ _ _ _ _ _ hr0,zdq _ _ hk3]
   have f0:wr.frozen? ⟨w.heap.size,k,none⟩=false:=zuQ _ _ _ _ _ hr0;generalize zen f l k k=old at c0;have H0:Hid _:=hr0;have H1:Hid _:=hr1;clear hr0 hr1;go_wp2
   go_roundw
   case rel=>exact⟨k+1,by omega,by omega,by go_num,hb.setCell (by simp) _,by rw[zuT _ _ _ _ _ _ H0.out,zjM,zk6 _ _ _ hk],by rw[zuS _ _ _ _ (by simp)];exact H1.out,by simpa [World.setCell] using hsz⟩
   case measure=>simp[intOf];omega
  ·have H0:Hid _:=hr0;have H1:Hid _:=hr1;clear hr0 hr1
   go_wp2_with (first|(refine wpList_load_row rfl 213 (.tmp 3) rfl w.heap.size rfl 213 _ (0,0) _ H0.out Tryz.underlying213 rfl (by rw[zaG];exact hzi.out) ?_)|(refine wpList_store_row rfl 213 (.tmp 6) _ rfl (w.heap.size+1) _ rfl rfl 213 _ H1.out (by rw[zaG];exact hzi.out) (by rw[zaG,zaG]) (zcN _) ?_))
   refine zuN (v:=.agg (zaz (zen f l k))) (results_cell_row Tryz.results124 _ _ (w.heap.size+1) 213 _ (0,0) _ rfl (setRow_heap _ _ _ _ _ _ H1.out) Tryz.underlying213 rfl (by rw[zaG];exact hzi.out)) rfl ⟨?_,Below.setRow hb (by omega) _⟩;rw[znc f l k hi hk2 (by omega)]
def zdJ(rs:List (Int×Int)):Nat->Bool:=rs.foldl (fun f r=>zgS f r.1 r.2) (fun _=>false)
theorem zk8(rs:List (Int×Int))(k:Nat)(hk:k<rs.length)(a b:Int)(h:rs.getD k (0,0)=(a,b)):zdJ (rs.take (k+1))=zgS (zdJ (rs.take k)) a b:=by
 unfold zdJ;rw[zut hk,List.foldl_append];have:rs[k]=(a,b):=by rw[<-h];simp[List.getD,hk]
 rw[this]
 rfl
theorem zg6:∀(rs:List (Int×Int)) (least:Int),0<=least->zbp least rs=true->∀k,k<rs.length->0<=(rs.getD k (0,0)).1/\(rs.getD k (0,0)).2<=255
 |[],_,_,_,k,hk=>absurd hk (zuI _)
 |(a,b)::r,least,hl,h,k,hk=>by
  unfold zbp at h
  by_cases hc:a<least\/b<a\/255<b
  ·rw[zuV hc] at h;cases h
  ·rw[zuU hc] at h;cases k with
   |zero=>simp[List.getD];omega
   |succ k=>exact zg6 r (b+2) (by omega) h k (by simpa using hk)
theorem zne{lo:Nat}(v:Value)(rs:List (Int×Int))(w:World)(hs:zan lo w v rs)(hok:zbp 0 rs=true):
  Calls Tryz.prog 120 #[v] w fun e w'=>e=.returned (.agg (zaz (zdJ rs)))/\Below w.heap.size w w':=by
 obtain⟨ao,cap,rfl,hm,hc⟩:=hs;have Hok:Hid _:=hok;clear hok;have hzv:=(zero_of_info Tryz.zeroMarks).1;have hzi:Hid _:=(zero_of_info Tryz.zeroMarks).2;have hbd:=fun w=>run_build (P:=Tryz.prog) w 213 #[] (zaz fun _=>false) (by kernel_rfl)
 go_enter Tryz.func120,Tryz.ntmps120
 go_wp2_with (refine wpList_store_row rfl 213 (.tmp 3) _ rfl (w.heap.size+1) _ rfl rfl 213 _ (heap_alloc2_new _ _ _) (by rw[zaG];exact hzi.out) (by rw[zaG]) (zcN _) ?_)
 have hW:Below w.heap.size w (((w.alloc (.cells (zaz fun _=>false) 213)).alloc (.cells (zaz fun _=>false) 213)).setRow (w.heap.size+1) (zaz fun _=>false)):=Below.setRow (((Below.refl _ _).alloc (zuz _) _).alloc (by simp) _) (by omega) _;have hR0:Hid ((((w.alloc (.cells (zaz fun _=>false) 213)).alloc (.cells (zaz fun _=>false) 213)).setRow (w.heap.size+1) (zaz fun _=>false)).heap[w.heap.size]?=some (.cells (zaz fun _=>false) 213 (0,0))):=by show _=_;rw[setRow_other _ _ _ _ (by omega),heap_alloc2_old]
 have hR1:Hid ((((w.alloc (.cells (zaz fun _=>false) 213)).alloc (.cells (zaz fun _=>false) 213)).setRow (w.heap.size+1) (zaz fun _=>false)).heap[w.heap.size+1]?=some (.cells (zaz fun _=>false) 213 (0,0))):=setRow_heap _ _ _ _ _ _ (heap_alloc2_new _ _ _)
 go_loopw [9] (fun i wr=>∃k:Nat,k<=rs.length/\i=.int .i64 k/\Below w.heap.size w wr/\Hid (wr.heap[w.heap.size]?=some (.cells (zaz fun _=>false) 213 (0,0)))/\Hid (wr.heap[w.heap.size+1]?=some (.cells (zaz (zdJ (rs.take k))) 213 (0,0)))/\w.heap.size+1<wr.heap.size)
  (fun i _=>rs.length-(intOf i).toNat)
 case atStart=>exact⟨0,zuL _,rfl,hW,hR0,hR1,by simp⟩
 case round=>
  obtain⟨k,hk,rfl,hb,H0,H1,hsz⟩:=hrel
  by_cases hlt:k<rs.length
  ·obtain⟨b,o,x,y,rfl,Hn,hbl,c0,c1⟩:=hc.elem hb hlt;obtain⟨hx0,hy1⟩:=zg6 rs 0 (by omega) Hok.out k hlt;rw[Hn.out] at hx0 hy1;simp only at hx0 hy1;have hba:Below w.heap.size w (wr.alloc (.cells #[.int .i64 x,.int .i64 y] 150)):=hb.alloc hb.size _;have H0a:Hid _:=zao (ob:=.cells #[.int .i64 x,.int .i64 y] 150) H0.out;have H1a:Hid _:=zao (ob:=.cells #[.int .i64 x,.int .i64 y] 150) H1.out;have HT:Hid _:=zk8 rs k hlt x y Hn.out;generalize zdJ (rs.take k)=F at H1a HT
   go_wp2_with (first|(refine wpList_load_row rfl 213 (.tmp 3) rfl (w.heap.size+1) rfl 213 _ (0,0) _ H1a.out Tryz.underlying213 rfl (by rw[zaG];exact hzi.out) ?_)|(go_at_call 124;refine(zsN _ _ _ _ hx0 hy1).mono ?_;rintro e w2 ⟨rfl,hb2⟩;have H0b:Hid _:=(hb2.block w.heap.size (by simp;omega)).trans H0a.out;have H1b:Hid _:=(hb2.block (w.heap.size+1) (by simp;omega)).trans H1a.out;have hbb:=zaa hba hba.size hb2;have hsz2:=hb2.size)|(refine wpList_store_row rfl 213 (.tmp 3) _ rfl (w.heap.size+1) _ rfl rfl 213 _ H1b.out (by rw[zaG];exact hzi.out) (by rw[zaG,zaG]) (zcN _) ?_))
   go_roundw
   case rel=>exact⟨k+1,by omega,by go_num,Below.setRow hbb (by omega) _,by show _=_;rw[setRow_other _ _ _ _ (by omega)];exact H0b.out,by show _=_;rw[setRow_heap _ _ _ _ _ _ H1b.out,HT.out],by simp at hsz2 ⊢;omega⟩
   case measure=>simp[intOf];omega
  ·have hkk:rs.take k=rs:=zur (by omega);rw[hkk] at H1
   go_wp2_with (first|(refine wpList_load_row rfl 213 (.tmp 3) rfl (w.heap.size+1) rfl 213 _ (0,0) _ H1.out Tryz.underlying213 rfl (by rw[zaG];exact hzi.out) ?_)|(refine wpList_store_row rfl 213 (.tmp 2) _ rfl w.heap.size _ rfl rfl 213 _ H0.out (by rw[zaG];exact hzi.out) (by rw[zaG,zaG]) (zcN _) ?_))
   exact zuN (v:=.agg (zaz (zdJ rs))) (results_cell_row Tryz.results120 _ _ w.heap.size 213 _ (0,0) _ rfl (setRow_heap _ _ _ _ _ _ H0.out) Tryz.underlying213 rfl (by rw[zaG];exact hzi.out)) rfl ⟨rfl,Below.setRow hb (by omega) _⟩
variable {o:Oper}{a:Act}{K:Act -> World -> Prop}{Q:Exit -> Act -> World -> Prop}{ops:Array Oper}
def zlS(nm:String):Prop:=
 (∀(x:Value) (w:World),(callMethod (.iface 165 x) nm #[]).run Tryz.prog w=.ok (.enter 143 #[x]) w)/\
 (∀(x:Value) (w:World),(callMethod (.iface 168 x) nm #[]).run Tryz.prog w=.ok (.enter 144 #[x]) w)/\
 (∀(x:Value) (w:World),(callMethod (.iface 170 x) nm #[]).run Tryz.prog w=.ok (.enter 145 #[x]) w)/\
 (∀(x:Value) (w:World),(callMethod (.iface 172 x) nm #[]).run Tryz.prog w=.ok (.enter 146 #[x]) w)/\
 (∀(x:Value) (w:World),(callMethod (.iface 175 x) nm #[]).run Tryz.prog w=.ok (.enter 147 #[x]) w)
def zc8(v:Value)(wt:Int):Prop:=
 ∀nm,zlS nm->∃f x,(∀w,(callMethod v nm #[]).run Tryz.prog w=.ok (.enter f #[x]) w)/\∀w,Calls Tryz.prog f #[x] w fun e w'=>e=.returned (.int .i64 wt)/\Below w.heap.size w w'
theorem zkt(w:World)(x:Operand)(nm:String)(ho:o.op=.call {callee:=.invoke x nm,args:=#[],argTypes:=#[]})
  (v:Value) (wt:Int) (hx:a.eval x=v) (hp:zc8 v wt) (hn:zlS nm) (h:∀w',Below w.heap.size w w'->K (a.put o.dst (.int .i64 wt)) w'):o.wp Tryz.prog a w K Q:=by
 obtain⟨f,y,h1,h2⟩:=hp nm hn;unfold Oper.wp execOp;simp only[ho,resolve,invoke,Sem.run_bind,Sem.run_pure,Result.andThen_ok,List.map_toArray,List.map_nil,hx];have e0:(#[v]++([]:List Value).toArray)[0]?=some v:=by simp
 simp only[e0];have e1:(#[v]++([]:List Value).toArray).extract 1 (#[v]++([]:List Value).toArray).size=#[]:=by simp
 rw[e1,h1,Oper.upon_enter];refine(h2 w).mono ?_;rintro e w' ⟨rfl,hb⟩;exact h w' hb
theorem zcx{rest:List Oper}(w:World)(hgd:o.guard=none)(x:Operand)(nm:String)(ho:o.op=.call {callee:=.invoke x nm,args:=#[],argTypes:=#[]})
  (v:Value) (wt:Int) (hx:a.eval x=v) (hp:zc8 v wt) (hn:zlS nm) (h:∀w',Below w.heap.size w w'->wpList Tryz.prog ops Q rest (a.put o.dst (.int .i64 wt)) w'):wpList Tryz.prog ops Q (o::rest) a w:=
 wpList_plain hgd fun _ hK=>zkt w x nm ho v wt hx hp hn fun w' hb=>hK _ _ (h w' hb)
theorem zd5{E:Prop}(w:World)(hgd:o.guard=none)(x:Operand)(nm:String)(ho:o.op=.call {callee:=.invoke x nm,args:=#[],argTypes:=#[]})
  (v:Value) (wt:Int) (hx:a.eval x=v) (hp:zc8 v wt) (hn:zlS nm) (h:∀w',Below w.heap.size w w'->K (a.put o.dst (.int .i64 wt)) w'):
  if Region.wanted o (yielded ops a.tmps)=true then Oper.wp Tryz.prog o a w K Q else E:=by
 have hw:Region.wanted o (yielded ops a.tmps)=true:=by simp[Region.wanted,hgd]
 rw[zuV hw];exact zkt w x nm ho v wt hx hp hn h
theorem znT(x:Value):zc8 (.iface 165 (.agg #[x])) 1:=by
 intro nm hN;refine⟨_,_,hN.1 _,fun w=>?_⟩;clear hN
 go_enter Tryz.func143,Tryz.ntmps143
 go_wp2;go_ret;exact⟨rfl,(Below.refl _ _).alloc (zuz _) _⟩
theorem znQ(v:Value)(g wt:Int)(h:zc8 v wt):zc8 (.iface 175 (.agg #[v,.int .i64 g])) wt:=by
 intro nm hN;refine⟨_,_,hN.2.2.2.2 _,fun w=>?_⟩;clear hN
 go_enter Tryz.func147,Tryz.ntmps147
 go_wp2_with (refine zcx _ rfl _ _ rfl _ _ rfl h ⟨fun _ _=>by kernel_rfl,fun _ _=>by kernel_rfl,fun _ _=>by kernel_rfl,fun _ _=>by kernel_rfl,fun _ _=>by kernel_rfl⟩ ?_;intro w2 hb2)
 go_ret
 exact⟨rfl,zaa ((Below.refl _ _).alloc (zuz _) _) (by simp) hb2⟩
attribute [local go_sem ↓] Go.wp_at_zero Go.wp_at_succ
theorem zqS{w wx w2:World}{g:Nat}{l r:Value}(hb:Below wx.heap.size wx w2)(h:Below g w wx/\g<wx.heap.size/\wx.cell? ⟨g,0,none⟩=some l/\wx.cell? ⟨g,1,none⟩=some r):
  Below g w w2/\g<w2.heap.size/\w2.cell? ⟨g,0,none⟩=some l/\w2.cell? ⟨g,1,none⟩=some r:=
 ⟨h.1.trans (hb.mono (by omega)),zuB h.2.1 hb.size,(hb.cell h.2.1).trans h.2.2.1,(hb.cell h.2.1).trans h.2.2.2⟩
theorem znS(l r:Value)(a b:Int)(hl:zc8 l a)(hr:zc8 r b)(ha0:0<=a)(ha1:a<=2001)(hb0:0<=b)(hb1:b<=2001):zc8 (.iface 168 (.agg #[l,r])) (capW (a+b)):=by
 intro nm hN;refine⟨_,_,hN.2.1 _,fun w=>?_⟩;clear hN;have hwr:IntKind.i64.wrap (a+b)=a+b:=by rw[IntKind.wrap_i64];omega
 have hw0:Below w.heap.size w (w.alloc (.cells #[l,r] 168)).drew:=((Below.refl _ _).alloc (zuz _) _).drew
 go_enter Tryz.func144,Tryz.ntmps144
 go_wp2
 go_region_held3 (fun w'=>Below w.heap.size w w'/\w.heap.size<w'.heap.size/\w'.cell? ⟨w.heap.size,0,none⟩=some l/\w'.cell? ⟨w.heap.size,1,none⟩=some r) ((first|go_keep|exact zqS hb2 (by assumption)|exact zqS hb3 (by assumption))) ((first|(refine zd5 _ rfl (.tmp 4) _ (by rfl) _ _ (by rfl) hl ⟨fun _ _=>by kernel_rfl,fun _ _=>by kernel_rfl,fun _ _=>by kernel_rfl,fun _ _=>by kernel_rfl,fun _ _=>by kernel_rfl⟩ ?_;intro w2 hb2)|(refine zd5 _ rfl (.tmp 7) _ (by rfl) _ _ (by rfl) hr ⟨fun _ _=>by kernel_rfl,fun _ _=>by kernel_rfl,fun _ _=>by kernel_rfl,fun _ _=>by kernel_rfl,fun _ _=>by kernel_rfl⟩ ?_;intro w3 hb3)|(go_at_call 78;refine(zcg _ _).mono ?_;rintro e w4 ⟨rfl,rfl⟩)))
 all_goals
  have hfin:=‹Below w.heap.size w _/\_›;go_wp2;go_ret;exact⟨rfl,hfin.1⟩
theorem znP(l r:Value)(a b:Int)(hl:zc8 l a)(hr:zc8 r b)(ha0:0<=a)(ha1:a<=2001)(hb0:0<=b)(hb1:b<=2001):zc8 (.iface 170 (.agg #[l,r])) (capW (a+b)):=by
 intro nm hN;refine⟨_,_,hN.2.2.1 _,fun w=>?_⟩;clear hN;have hwr:IntKind.i64.wrap (a+b)=a+b:=by rw[IntKind.wrap_i64];omega
 have hw0:Below w.heap.size w (w.alloc (.cells #[l,r] 170)).drew:=((Below.refl _ _).alloc (zuz _) _).drew
 go_enter Tryz.func145,Tryz.ntmps145
 go_wp2
 go_region_held3 (fun w'=>Below w.heap.size w w'/\w.heap.size<w'.heap.size/\w'.cell? ⟨w.heap.size,0,none⟩=some l/\w'.cell? ⟨w.heap.size,1,none⟩=some r) ((first|go_keep|exact zqS hb2 (by assumption)|exact zqS hb3 (by assumption))) ((first|(refine zd5 _ rfl (.tmp 4) _ (by rfl) _ _ (by rfl) hl ⟨fun _ _=>by kernel_rfl,fun _ _=>by kernel_rfl,fun _ _=>by kernel_rfl,fun _ _=>by kernel_rfl,fun _ _=>by kernel_rfl⟩ ?_;intro w2 hb2)|(refine zd5 _ rfl (.tmp 7) _ (by rfl) _ _ (by rfl) hr ⟨fun _ _=>by kernel_rfl,fun _ _=>by kernel_rfl,fun _ _=>by kernel_rfl,fun _ _=>by kernel_rfl,fun _ _=>by kernel_rfl⟩ ?_;intro w3 hb3)|(go_at_call 78;refine(zcg _ _).mono ?_;rintro e w4 ⟨rfl,rfl⟩)))
 all_goals
  have hfin:=‹Below w.heap.size w _/\_›;go_wp2;go_ret;exact⟨rfl,hfin.1⟩
theorem zdC{mn mx:Int}(h:zaY mn mx=true):1<=za2 mn mx/\za2 mn mx<=256:=by
 simp[zaY] at h;unfold za2;split
 ·omega
 ·split<;>omega
theorem znR(l:Value)(a mn mx:Int)(hl:zc8 l a)(ha0:0<=a)(ha1:a<=2001)(hbd:zaY mn mx=true):zc8 (.iface 172 (.agg #[l,.int .i64 mn,.int .i64 mx])) (capW (a*za2 mn mx)):=by
 intro nm hN;refine⟨_,_,hN.2.2.2.1 _,fun w=>?_⟩;clear hN;have hcb:=zdC hbd;have hm0:0<=a*za2 mn mx:=Int.mul_nonneg ha0 (by omega);have hm1:a*za2 mn mx<=2001*256:=ztA ha1 hcb.2 (by omega) (by omega);simp[zaY] at hbd
 by_cases hx:mx=-1
 ·subst hx;have hcc:za2 mn (-1)=mn+1:=by simp[za2]
  rw[hcc] at hm0 hm1 ⊢;clear hcc hcb;have hwr:IntKind.i64.wrap (a*(mn+1))=a*(mn+1):=by rw[IntKind.wrap_i64];omega
  obtain⟨hb1,hb2'⟩:=hbd
  go_enter Tryz.func146,Tryz.ntmps146
  go_wp2_with (first|(refine zcx _ rfl (.tmp 14) _ rfl _ _ rfl hl ⟨fun _ _=>by kernel_rfl,fun _ _=>by kernel_rfl,fun _ _=>by kernel_rfl,fun _ _=>by kernel_rfl,fun _ _=>by kernel_rfl⟩ ?_;intro w2 hb2)|(go_at_call 78;refine(zcg _ _).mono ?_;rintro e w4 ⟨rfl,rfl⟩))
  go_ret
  exact⟨rfl,zaa ((Below.refl _ _).alloc (zuz _) _) (by simp) hb2⟩
 ·have hx2:(mx == -1)=false:=zuM.2 hx;obtain⟨hb1,hb2'⟩:=hbd
  by_cases h1:1<=mx
  ·have hcc:za2 mn mx=mx:=by simp[za2,hx];omega
   rw[hcc] at hm0 hm1 ⊢;have hwr:IntKind.i64.wrap (a*mx)=a*mx:=by rw[IntKind.wrap_i64];omega
   clear hcc hcb hx hb2'
   go_enter Tryz.func146,Tryz.ntmps146
   go_wp2_with (first|(refine zcx _ rfl (.tmp 14) _ rfl _ _ rfl hl ⟨fun _ _=>by kernel_rfl,fun _ _=>by kernel_rfl,fun _ _=>by kernel_rfl,fun _ _=>by kernel_rfl,fun _ _=>by kernel_rfl⟩ ?_;intro w2 hb2)|(go_at_call 78;refine(zcg _ _).mono ?_;rintro e w4 ⟨rfl,rfl⟩))
   go_ret
   exact⟨rfl,zaa ((Below.refl _ _).alloc (zuz _) _) (by simp) hb2⟩
  ·have hcc:za2 mn mx=1:=by simp[za2,hx];omega
   rw[hcc] at hm0 hm1 ⊢;rw[Int.mul_one];have hwr:IntKind.i64.wrap a=a:=by rw[IntKind.wrap_i64];omega
   clear hcc hcb hx hb2' hm0 hm1
   go_enter Tryz.func146,Tryz.ntmps146
   go_wp2_with (first|(refine zcx _ rfl (.tmp 14) _ rfl _ _ rfl hl ⟨fun _ _=>by kernel_rfl,fun _ _=>by kernel_rfl,fun _ _=>by kernel_rfl,fun _ _=>by kernel_rfl,fun _ _=>by kernel_rfl⟩ ?_;intro w2 hb2)|(go_at_call 78;refine(zcg _ _).mono ?_;rintro e w4 ⟨rfl,rfl⟩))
   go_ret
   exact⟨rfl,zaa ((Below.refl _ _).alloc (zuz _) _) (by simp) hb2⟩
end Go.Proofs.YthddplbodacjgaaGreatDoor
