import Derived.Test.YthdljcdbfmhleaaGreatDoorC10
import Derived.Deep.QuietTactic
import Derived.BigQuiet
import Derived.Deep.WholeRow
import Derived.Laws.Tables
namespace Go.Proofs.YthdljcdbfmhleaaGreatDoor
set_option maxHeartbeats 1000000
set_option maxRecDepth 100000
open Go.RowKit
theorem zgM{lo:Nat}(v:Value)(rs:List (Int×Int))(w:World)(hs:zag lo w v rs):
  Calls Tryz.prog 50 #[.agg #[.int .i64 1,v,.int .i64 0,.int .i64 0,.int .i64 0]] w fun e w'=>e=.returned (.bool (zaZ 0 rs))/\Below w.heap.size w w':=by
 obtain⟨ao,cap,rfl,hm,hc⟩:=hs
 go_enter Tryz.func50,Tryz.ntmps50
 go_wp2
 go_loopw [59] (fun i wr=>∃k:Nat,k<=rs.length/\i=.int .i64 k/\∃L:Int,0<=L/\L<=257/\(k=0->L=0)/\(∀j,k=j+1->L=(rs.getD j (0,0)).2+2)/\Hid (zaZ 0 rs=zaZ L (rs.drop k))/\Below w.heap.size w wr/\wr.cell? ⟨w.heap.size,1,none⟩=some (.slice ao rs.length cap)/\w.heap.size<wr.heap.size)
  (fun i _=>rs.length-(intOf i).toNat)
 case atStart=>exact⟨0,zsj _,rfl,0,by omega,by omega,fun _=>rfl,fun j hj=>by omega,rfl,(Below.refl _ _).alloc (zsa _) _,by simp,by simp⟩
 case round=>
  obtain⟨k,hk,rfl,L,hL0,hL1,HL0,HL1,HS,hb,hbox,hsz⟩:=hrel;have Hl0:Hid (k=0->L=0):=HL0;have Hl1:Hid (∀j,k=j+1->L=(rs.getD j (0,0)).2+2):=HL1;clear HL0 HL1
  by_cases hlt:k<rs.length
  ·obtain⟨b,o,x,y,rfl,Hn,hbl,c0,c1⟩:=hc.elem hb hlt;have hz:=hb.size;have hba:Below w.heap.size w (wr.alloc (.cells #[.int .i64 x,.int .i64 y] 149)):=hb.alloc hz _;have hboxa:(wr.alloc (.cells #[.int .i64 x,.int .i64 y] 149)).cell? ⟨w.heap.size,1,none⟩=some (.slice (some ⟨b,o,none⟩) rs.length cap):=(World.cell?_of_block (Below.heap_alloc _ _ _ hsz)).trans hbox;have HD:Hid (zaZ L (rs.drop k)=if x<L\/y<x\/255<y then false else zaZ (y+2) (rs.drop (k+1))):=zeb rs k hlt L x y Hn.out
   by_cases h1:x<0
   ·go_wp2;go_ret;exact⟨zam (by rw[HS.out,HD.out,zst (by omega)]),hba⟩
   by_cases h2:y<x
   ·go_wp2;go_ret;exact⟨zam (by rw[HS.out,HD.out,zst (by omega)]),hba⟩
   by_cases h3:255<y
   ·go_wp2;go_ret;exact⟨zam (by rw[HS.out,HD.out,zst (by omega)]),hba⟩
   by_cases hk0:k=0
   ·have hL:Hid (L=0):=Hl0.out hk0;have hd:decide ((0:Int)<(k:Int))=false:=by simp;omega
    have hd2:decide (0<k)=false:=by simp;omega
    have hd3:¬((0:Int)<(k:Int)):=by omega
    have Hk0:Hid (k=0):=hk0;clear hk0;go_wp2
    go_quiet (fail)
    go_wp2
    go_roundw
    case rel=>exact⟨k+1,by omega,by go_num,y+2,by omega,by omega,fun h=>by omega,fun j hj=>by rw[show j=k by omega,Hn.out],by show _=_;rw[HS.out,HD.out,zss (by have:=hL.out;omega)],below_drewN hba _,hboxa,by simp;omega⟩
    case measure=>simp[intOf];omega
   ·obtain⟨j,rfl⟩:∃j,k=j+1:=⟨k-1,by omega⟩;obtain⟨b',o',x',y',hao,Hn',hbl',d0,d1⟩:=hc.elem hb (show j<rs.length by omega);simp only[Option.some.injEq,Addr.mk.injEq,and_true] at hao;obtain⟨rfl,rfl⟩:=hao;have hL:=Hl1.out j rfl;rw[Hn'.out] at hL;have hL':Hid (L=y'+2):=hL;have hy1:y'<=255:=by simp only at hL;omega
    have hy0:-2<=y':=by simp only at hL;omega
    clear hL;have hd:(0:Int)<(j:Int)+1:=by omega
    have hd1:decide ((0:Int)<(j:Int)+1)=true:=by simp
    have hwj:IntKind.i64.wrap (j:Int)=(j:Int):=by rw[IntKind.wrap_i64];omega
    have hwy:IntKind.i64.wrap (y'+2)=y'+2:=by rw[IntKind.wrap_i64];omega
    have hbr:b<wr.heap.size:=by omega
    have hj0:(0:Int)<=(j:Int):=by omega
    have hj1:(j:Int)<(rs.length:Int):=by omega
    by_cases h4:x<y'+2
    ·go_wp2
     go_quiet (fail)
     go_wp2;go_ret;exact⟨zam (by rw[HS.out,HD.out,zst (by have:=hL'.out;omega)]),below_drewN hba _⟩
    ·go_wp2
     go_quiet (fail)
     go_wp2
     go_roundw
     case rel=>exact⟨j+1+1,by omega,by go_num,y+2,by omega,by omega,fun h=>by omega,fun i hi=>by rw[show i=j+1 by omega,Hn.out],by show _=_;rw[HS.out,HD.out,zss (by have:=hL'.out;omega)],below_drewN hba _,hboxa,by simp;omega⟩
     case measure=>simp[intOf];omega
  ·go_wp2;go_ret;exact⟨zam (by rw[HS.out,zrq (by omega)];rfl),hb⟩
section
variable {lo:Nat}
theorem zfH(mn mx g:Int)(v:Value)(rs:List (Int×Int))(w:World)(hs:zag lo w v rs)(hg:(g==0)=false):
  Calls Tryz.prog 50 #[.agg #[.int .i64 1,v,.int .i64 mn,.int .i64 mx,.int .i64 g]] w fun e w'=>e=.returned (.bool false)/\Below w.heap.size w w':=by
 obtain⟨ao,cap,rfl,hm,hc⟩:=hs;clear hc
 go_enter Tryz.func50,Tryz.ntmps50
 go_wp2_with (go_at_call 49;refine(zax _ _ _ _).mono ?_;rintro e w' ⟨rfl,rfl⟩)
 all_goals
  go_ret
  exact⟨rfl,(Below.refl _ _).alloc (zsa _) _⟩
theorem zfK(mn mx:Int)(v:Value)(rs:List (Int×Int))(w:World)(hs:zag lo w v rs)(hn:(mn==0)=false):
  Calls Tryz.prog 50 #[.agg #[.int .i64 1,v,.int .i64 mn,.int .i64 mx,.int .i64 0]] w fun e w'=>e=.returned (.bool false)/\Below w.heap.size w w':=by
 obtain⟨ao,cap,rfl,hm,hc⟩:=hs;clear hc
 go_enter Tryz.func50,Tryz.ntmps50
 go_wp2_with (go_at_call 49;refine(zax _ _ _ _).mono ?_;rintro e w' ⟨rfl,rfl⟩)
 all_goals
  go_ret
  exact⟨rfl,(Below.refl _ _).alloc (zsa _) _⟩
theorem zfI(mx:Int)(v:Value)(rs:List (Int×Int))(w:World)(hs:zag lo w v rs)(hn:(mx==0)=false):
  Calls Tryz.prog 50 #[.agg #[.int .i64 1,v,.int .i64 0,.int .i64 mx,.int .i64 0]] w fun e w'=>e=.returned (.bool false)/\Below w.heap.size w w':=by
 obtain⟨ao,cap,rfl,hm,hc⟩:=hs;clear hc
 go_enter Tryz.func50,Tryz.ntmps50
 go_wp2_with (go_at_call 49;refine(zax _ _ _ _).mono ?_;rintro e w' ⟨rfl,rfl⟩)
 all_goals
  go_ret
  exact⟨rfl,(Below.refl _ _).alloc (zsa _) _⟩
theorem zjF(mn mx g:Int)(v:Value)(rs:List (Int×Int))(w:World)(hs:zag lo w v rs)(hl:((rs.length:Int)==0)=false):
  Calls Tryz.prog 50 #[.agg #[.int .i64 2,v,.int .i64 mn,.int .i64 mx,.int .i64 g]] w fun e w'=>e=.returned (.bool false)/\Below w.heap.size w w':=by
 obtain⟨ao,cap,rfl,hm,hc⟩:=hs;clear hc
 go_enter Tryz.func50,Tryz.ntmps50
 go_wp2_with (go_at_call 49;refine(zax _ _ _ _).mono ?_;rintro e w' ⟨rfl,rfl⟩)
 all_goals
  go_ret
  exact⟨rfl,(Below.refl _ _).alloc (zsa _) _⟩
theorem zjB(mn mx g:Int)(v:Value)(rs:List (Int×Int))(w:World)(hs:zag lo w v rs)(hl:((rs.length:Int)==0)=true)(hg:(g==0)=false):
  Calls Tryz.prog 50 #[.agg #[.int .i64 2,v,.int .i64 mn,.int .i64 mx,.int .i64 g]] w fun e w'=>e=.returned (.bool false)/\Below w.heap.size w w':=by
 obtain⟨ao,cap,rfl,hm,hc⟩:=hs;clear hc
 go_enter Tryz.func50,Tryz.ntmps50
 go_wp2_with (go_at_call 49;refine(zax _ _ _ _).mono ?_;rintro e w' ⟨rfl,rfl⟩)
 all_goals
  go_ret
  exact⟨rfl,(Below.refl _ _).alloc (zsa _) _⟩
theorem zjL(mn mx:Int)(v:Value)(rs:List (Int×Int))(w:World)(hs:zag lo w v rs)(hl:((rs.length:Int)==0)=true)(hn:(mn==0)=false):
  Calls Tryz.prog 50 #[.agg #[.int .i64 2,v,.int .i64 mn,.int .i64 mx,.int .i64 0]] w fun e w'=>e=.returned (.bool false)/\Below w.heap.size w w':=by
 obtain⟨ao,cap,rfl,hm,hc⟩:=hs;clear hc
 go_enter Tryz.func50,Tryz.ntmps50
 go_wp2_with (go_at_call 49;refine(zax _ _ _ _).mono ?_;rintro e w' ⟨rfl,rfl⟩)
 all_goals
  go_ret
  exact⟨rfl,(Below.refl _ _).alloc (zsa _) _⟩
theorem zjJ(mx:Int)(v:Value)(rs:List (Int×Int))(w:World)(hs:zag lo w v rs)(hl:((rs.length:Int)==0)=true)(hn:(mx==0)=false):
  Calls Tryz.prog 50 #[.agg #[.int .i64 2,v,.int .i64 0,.int .i64 mx,.int .i64 0]] w fun e w'=>e=.returned (.bool false)/\Below w.heap.size w w':=by
 obtain⟨ao,cap,rfl,hm,hc⟩:=hs;clear hc
 go_enter Tryz.func50,Tryz.ntmps50
 go_wp2_with (go_at_call 49;refine(zax _ _ _ _).mono ?_;rintro e w' ⟨rfl,rfl⟩)
 all_goals
  go_ret
  exact⟨rfl,(Below.refl _ _).alloc (zsa _) _⟩
theorem zjG(mn mx g:Int)(v:Value)(rs:List (Int×Int))(w:World)(hs:zag lo w v rs)(hl:((rs.length:Int)==0)=false):
  Calls Tryz.prog 50 #[.agg #[.int .i64 3,v,.int .i64 mn,.int .i64 mx,.int .i64 g]] w fun e w'=>e=.returned (.bool false)/\Below w.heap.size w w':=by
 obtain⟨ao,cap,rfl,hm,hc⟩:=hs;clear hc
 go_enter Tryz.func50,Tryz.ntmps50
 go_wp2_with (go_at_call 49;refine(zax _ _ _ _).mono ?_;rintro e w' ⟨rfl,rfl⟩)
 all_goals
  go_ret
  exact⟨rfl,(Below.refl _ _).alloc (zsa _) _⟩
theorem zjC(mn mx g:Int)(v:Value)(rs:List (Int×Int))(w:World)(hs:zag lo w v rs)(hl:((rs.length:Int)==0)=true)(hg:(g==0)=false):
  Calls Tryz.prog 50 #[.agg #[.int .i64 3,v,.int .i64 mn,.int .i64 mx,.int .i64 g]] w fun e w'=>e=.returned (.bool false)/\Below w.heap.size w w':=by
 obtain⟨ao,cap,rfl,hm,hc⟩:=hs;clear hc
 go_enter Tryz.func50,Tryz.ntmps50
 go_wp2_with (go_at_call 49;refine(zax _ _ _ _).mono ?_;rintro e w' ⟨rfl,rfl⟩)
 all_goals
  go_ret
  exact⟨rfl,(Below.refl _ _).alloc (zsa _) _⟩
theorem zjM(mn mx:Int)(v:Value)(rs:List (Int×Int))(w:World)(hs:zag lo w v rs)(hl:((rs.length:Int)==0)=true)(hn:(mn==0)=false):
  Calls Tryz.prog 50 #[.agg #[.int .i64 3,v,.int .i64 mn,.int .i64 mx,.int .i64 0]] w fun e w'=>e=.returned (.bool false)/\Below w.heap.size w w':=by
 obtain⟨ao,cap,rfl,hm,hc⟩:=hs;clear hc
 go_enter Tryz.func50,Tryz.ntmps50
 go_wp2_with (go_at_call 49;refine(zax _ _ _ _).mono ?_;rintro e w' ⟨rfl,rfl⟩)
 all_goals
  go_ret
  exact⟨rfl,(Below.refl _ _).alloc (zsa _) _⟩
theorem zjK(mx:Int)(v:Value)(rs:List (Int×Int))(w:World)(hs:zag lo w v rs)(hl:((rs.length:Int)==0)=true)(hn:(mx==0)=false):
  Calls Tryz.prog 50 #[.agg #[.int .i64 3,v,.int .i64 0,.int .i64 mx,.int .i64 0]] w fun e w'=>e=.returned (.bool false)/\Below w.heap.size w w':=by
 obtain⟨ao,cap,rfl,hm,hc⟩:=hs;clear hc
 go_enter Tryz.func50,Tryz.ntmps50
 go_wp2_with (go_at_call 49;refine(zax _ _ _ _).mono ?_;rintro e w' ⟨rfl,rfl⟩)
 all_goals
  go_ret
  exact⟨rfl,(Below.refl _ _).alloc (zsa _) _⟩
theorem zjH(mn mx g:Int)(v:Value)(rs:List (Int×Int))(w:World)(hs:zag lo w v rs)(hl:((rs.length:Int)==0)=false):
  Calls Tryz.prog 50 #[.agg #[.int .i64 4,v,.int .i64 mn,.int .i64 mx,.int .i64 g]] w fun e w'=>e=.returned (.bool false)/\Below w.heap.size w w':=by
 obtain⟨ao,cap,rfl,hm,hc⟩:=hs;clear hc
 go_enter Tryz.func50,Tryz.ntmps50
 go_wp2_with (go_at_call 49;refine(zax _ _ _ _).mono ?_;rintro e w' ⟨rfl,rfl⟩)
 all_goals
  go_ret
  exact⟨rfl,(Below.refl _ _).alloc (zsa _) _⟩
theorem zjD(mn mx g:Int)(v:Value)(rs:List (Int×Int))(w:World)(hs:zag lo w v rs)(hl:((rs.length:Int)==0)=true)(hg:(g==0)=false):
  Calls Tryz.prog 50 #[.agg #[.int .i64 4,v,.int .i64 mn,.int .i64 mx,.int .i64 g]] w fun e w'=>e=.returned (.bool false)/\Below w.heap.size w w':=by
 obtain⟨ao,cap,rfl,hm,hc⟩:=hs;clear hc
 go_enter Tryz.func50,Tryz.ntmps50
 go_wp2_with (go_at_call 49;refine(zax _ _ _ _).mono ?_;rintro e w' ⟨rfl,rfl⟩)
 all_goals
  go_ret
  exact⟨rfl,(Below.refl _ _).alloc (zsa _) _⟩
theorem zjI(mn mx g:Int)(v:Value)(rs:List (Int×Int))(w:World)(hs:zag lo w v rs)(hl:((rs.length:Int)==0)=false):
  Calls Tryz.prog 50 #[.agg #[.int .i64 5,v,.int .i64 mn,.int .i64 mx,.int .i64 g]] w fun e w'=>e=.returned (.bool false)/\Below w.heap.size w w':=by
 obtain⟨ao,cap,rfl,hm,hc⟩:=hs;clear hc
 go_enter Tryz.func50,Tryz.ntmps50
 go_wp2_with (go_at_call 49;refine(zax _ _ _ _).mono ?_;rintro e w' ⟨rfl,rfl⟩)
 all_goals
  go_ret
  exact⟨rfl,(Below.refl _ _).alloc (zsa _) _⟩
theorem zfL(mn mx g:Int)(v:Value)(rs:List (Int×Int))(w:World)(hs:zag lo w v rs)(hl:((rs.length:Int)==0)=true)(hn:(mn==0)=false):
  Calls Tryz.prog 50 #[.agg #[.int .i64 5,v,.int .i64 mn,.int .i64 mx,.int .i64 g]] w fun e w'=>e=.returned (.bool false)/\Below w.heap.size w w':=by
 obtain⟨ao,cap,rfl,hm,hc⟩:=hs;clear hc
 go_enter Tryz.func50,Tryz.ntmps50
 go_wp2_with (go_at_call 49;refine(zax _ _ _ _).mono ?_;rintro e w' ⟨rfl,rfl⟩)
 all_goals
  go_ret
  exact⟨rfl,(Below.refl _ _).alloc (zsa _) _⟩
theorem zfJ(mx g:Int)(v:Value)(rs:List (Int×Int))(w:World)(hs:zag lo w v rs)(hl:((rs.length:Int)==0)=true)(hn:(mx==0)=false):
  Calls Tryz.prog 50 #[.agg #[.int .i64 5,v,.int .i64 0,.int .i64 mx,.int .i64 g]] w fun e w'=>e=.returned (.bool false)/\Below w.heap.size w w':=by
 obtain⟨ao,cap,rfl,hm,hc⟩:=hs;clear hc
 go_enter Tryz.func50,Tryz.ntmps50
 go_wp2_with (go_at_call 49;refine(zax _ _ _ _).mono ?_;rintro e w' ⟨rfl,rfl⟩)
 all_goals
  go_ret
  exact⟨rfl,(Below.refl _ _).alloc (zsa _) _⟩
theorem ziq(v:Value)(rs:List (Int×Int))(w:World)(hs:zag lo w v rs)(hl:((rs.length:Int)==0)=true):
  Calls Tryz.prog 50 #[.agg #[.int .i64 2,v,.int .i64 0,.int .i64 0,.int .i64 0]] w fun e w'=>e=.returned (.bool true)/\Below w.heap.size w w':=by
 obtain⟨ao,cap,rfl,hm,hc⟩:=hs;clear hc;have hl0:rs.length=0:=by have:=eq_of_beq hl;omega
 rw[hl0];clear hl hm
 go_enter Tryz.func50,Tryz.ntmps50
 go_wp2_with (go_at_call 49;refine(zax _ _ _ _).mono ?_;rintro e w' ⟨rfl,rfl⟩)
 refine wp_loop_rounds 1 ?_;rw[rounds_succ];go_wp2;go_ret;exact⟨rfl,(Below.refl _ _).alloc (zsa _) _⟩
theorem zir(v:Value)(rs:List (Int×Int))(w:World)(hs:zag lo w v rs)(hl:((rs.length:Int)==0)=true):
  Calls Tryz.prog 50 #[.agg #[.int .i64 3,v,.int .i64 0,.int .i64 0,.int .i64 0]] w fun e w'=>e=.returned (.bool true)/\Below w.heap.size w w':=by
 obtain⟨ao,cap,rfl,hm,hc⟩:=hs;clear hc;have hl0:rs.length=0:=by have:=eq_of_beq hl;omega
 rw[hl0];clear hl hm
 go_enter Tryz.func50,Tryz.ntmps50
 go_wp2_with (go_at_call 49;refine(zax _ _ _ _).mono ?_;rintro e w' ⟨rfl,rfl⟩)
 refine wp_loop_rounds 1 ?_;rw[rounds_succ];go_wp2;go_ret;exact⟨rfl,(Below.refl _ _).alloc (zsa _) _⟩
theorem zeW(g:Int)(v:Value)(rs:List (Int×Int))(w:World)(hs:zag lo w v rs)(hl:((rs.length:Int)==0)=true):
  Calls Tryz.prog 50 #[.agg #[.int .i64 5,v,.int .i64 0,.int .i64 0,.int .i64 g]] w fun e w'=>e=.returned (.bool true)/\Below w.heap.size w w':=by
 obtain⟨ao,cap,rfl,hm,hc⟩:=hs;clear hc;have hl0:rs.length=0:=by have:=eq_of_beq hl;omega
 rw[hl0];clear hl hm
 go_enter Tryz.func50,Tryz.ntmps50
 go_wp2_with (go_at_call 49;refine(zax _ _ _ _).mono ?_;rintro e w' ⟨rfl,rfl⟩)
 refine wp_loop_rounds 1 ?_;rw[rounds_succ];go_wp2;go_ret;exact⟨rfl,(Below.refl _ _).alloc (zsa _) _⟩
theorem zjA(mn mx:Int)(v:Value)(rs:List (Int×Int))(w:World)(hs:zag lo w v rs)(hl:((rs.length:Int)==0)=true)(hb:btw mn 0 255=false):
  Calls Tryz.prog 50 #[.agg #[.int .i64 4,v,.int .i64 mn,.int .i64 mx,.int .i64 0]] w fun e w'=>e=.returned (.bool false)/\Below w.heap.size w w':=by
 obtain⟨ao,cap,rfl,hm,hc⟩:=hs;clear hc
 go_enter Tryz.func50,Tryz.ntmps50
 go_wp2_with (go_at_call 49;refine(zax _ _ _ _).mono ?_;rintro e w' ⟨rfl,rfl⟩)
 all_goals
  go_ret
  exact⟨rfl,(Below.refl _ _).alloc (zsa _) _⟩
theorem zfG(mn mx:Int)(v:Value)(rs:List (Int×Int))(w:World)(hs:zag lo w v rs)(hl:((rs.length:Int)==0)=true)(hb:btw mn 0 255=true)(hx2:(mx != -1)=true)(hb2:btw mx mn 255=false):
  Calls Tryz.prog 50 #[.agg #[.int .i64 4,v,.int .i64 mn,.int .i64 mx,.int .i64 0]] w fun e w'=>e=.returned (.bool false)/\Below w.heap.size w w':=by
 obtain⟨ao,cap,rfl,hm,hc⟩:=hs;clear hc
 go_enter Tryz.func50,Tryz.ntmps50
 go_wp2_with (go_at_call 49;refine(zax _ _ _ _).mono ?_;rintro e w' ⟨rfl,rfl⟩)
 all_goals
  go_ret
  exact⟨rfl,(Below.refl _ _).alloc (zsa _) _⟩
theorem zeV(mn:Int)(v:Value)(rs:List (Int×Int))(w:World)(hs:zag lo w v rs)(hl:((rs.length:Int)==0)=true)(hb:btw mn 0 255=true):
  Calls Tryz.prog 50 #[.agg #[.int .i64 4,v,.int .i64 mn,.int .i64 (-1),.int .i64 0]] w fun e w'=>e=.returned (.bool true)/\Below w.heap.size w w':=by
 obtain⟨ao,cap,rfl,hm,hc⟩:=hs;clear hc;have hl0:rs.length=0:=by have:=eq_of_beq hl;omega
 rw[hl0];clear hl hm
 go_enter Tryz.func50,Tryz.ntmps50
 go_wp2_with (go_at_call 49;refine(zax _ _ _ _).mono ?_;rintro e w' ⟨rfl,rfl⟩)
 refine wp_loop_rounds 1 ?_;rw[rounds_succ];go_wp2;go_ret;exact⟨rfl,(Below.refl _ _).alloc (zsa _) _⟩
theorem zda(mn mx:Int)(v:Value)(rs:List (Int×Int))(w:World)(hs:zag lo w v rs)(hl:((rs.length:Int)==0)=true)(hb:btw mn 0 255=true)(hx2:(mx != -1)=true)(hb2:btw mx mn 255=true):
  Calls Tryz.prog 50 #[.agg #[.int .i64 4,v,.int .i64 mn,.int .i64 mx,.int .i64 0]] w fun e w'=>e=.returned (.bool true)/\Below w.heap.size w w':=by
 obtain⟨ao,cap,rfl,hm,hc⟩:=hs;clear hc;have hl0:rs.length=0:=by have:=eq_of_beq hl;omega
 rw[hl0];clear hl hm
 go_enter Tryz.func50,Tryz.ntmps50
 go_wp2_with (go_at_call 49;refine(zax _ _ _ _).mono ?_;rintro e w' ⟨rfl,rfl⟩)
 refine wp_loop_rounds 1 ?_;rw[rounds_succ];go_wp2;go_ret;exact⟨rfl,(Below.refl _ _).alloc (zsa _) _⟩
theorem zlL(k mn mx g:Int)(v:Value)(rs:List (Int×Int))(w:World)(hs:zag lo w v rs)(hk:k<1):
  Calls Tryz.prog 50 #[.agg #[.int .i64 k,v,.int .i64 mn,.int .i64 mx,.int .i64 g]] w fun e w'=>e=.returned (.bool false)/\Below w.heap.size w w':=by
 obtain⟨ao,cap,rfl,hm,hc⟩:=hs;clear hc
 go_enter Tryz.func50,Tryz.ntmps50
 go_wp2_with (go_at_call 49;refine(zax _ _ _ _).mono ?_;rintro e w' ⟨rfl,rfl⟩)
 all_goals
  go_ret
  exact⟨rfl,(Below.refl _ _).alloc (zsa _) _⟩
theorem zjE(k mn mx g:Int)(v:Value)(rs:List (Int×Int))(w:World)(hs:zag lo w v rs)(hk:5<k):
  Calls Tryz.prog 50 #[.agg #[.int .i64 k,v,.int .i64 mn,.int .i64 mx,.int .i64 g]] w fun e w'=>e=.returned (.bool false)/\Below w.heap.size w w':=by
 obtain⟨ao,cap,rfl,hm,hc⟩:=hs;clear hc
 go_enter Tryz.func50,Tryz.ntmps50
 go_wp2_with (go_at_call 49;refine(zax _ _ _ _).mono ?_;rintro e w' ⟨rfl,rfl⟩)
 all_goals
  go_ret
  exact⟨rfl,(Below.refl _ _).alloc (zsa _) _⟩
end
theorem zio{lo:Nat}(k mn mx g:Int)(v:Value)(rs:List (Int×Int))(w:World)(hs:zag lo w v rs):
  Calls Tryz.prog 50 #[.agg #[.int .i64 k,v,.int .i64 mn,.int .i64 mx,.int .i64 g]] w fun e w'=>e=.returned (.bool (zav ⟨k,rs,mn,mx,g⟩))/\Below w.heap.size w w':=by
 have fin:∀{b:Bool},zav ⟨k,rs,mn,mx,g⟩=b->∀(e:Ending) (w':World),(e=.returned (.bool b)/\Below w.heap.size w w')->(e=.returned (.bool (zav ⟨k,rs,mn,mx,g⟩))/\Below w.heap.size w w'):=by
  intro b hb e w' h;rw[hb];exact h
 by_cases hlow:k<1
 ·exact(zlL k mn mx g v rs w hs hlow).mono (fin (by unfold zav;rw[zss (by simp only;omega),zss (by simp only;omega),zss (by simp only;omega),zss (by simp only;omega)]))
 by_cases hhigh:5<k
 ·exact(zjE k mn mx g v rs w hs hhigh).mono (fin (by unfold zav;rw[zss (by simp only;omega),zss (by simp only;omega),zss (by simp only;omega),zss (by simp only;omega)]))
 have hk:k=1\/k=2\/k=3\/k=4\/k=5:=by omega
 clear hlow hhigh
 by_cases hl:((rs.length:Int)==0)=true
 ·by_cases hg:g=0
  ·subst hg
   by_cases hn:mn=0
   ·by_cases hx:mx=0
    ·subst hn hx;rcases hk with rfl|rfl|rfl|rfl|rfl
     ·exact(zgM v rs w hs).mono (fin (by simp[zav]))
     ·exact(ziq v rs w hs hl).mono (fin (by simp[zav];exact zrs (by have:=eq_of_beq hl;omega)))
     ·exact(zir v rs w hs hl).mono (fin (by simp[zav];exact zrs (by have:=eq_of_beq hl;omega)))
     ·exact(zda 0 0 v rs w hs hl (by decide) (by decide) (by decide)).mono (fin (by simp[zav,zaD];exact zrs (by have:=eq_of_beq hl;omega)))
     ·exact(zeW 0 v rs w hs hl).mono (fin (by simp[zav];exact zrs (by have:=eq_of_beq hl;omega)))
    ·subst hn;have hx':(mx==0)=false:=zsk.2 hx;rcases hk with rfl|rfl|rfl|rfl|rfl
     ·exact(zfI mx v rs w hs hx').mono (fin (by simp[zav,hx]))
     ·exact(zjJ mx v rs w hs hl hx').mono (fin (by simp[zav,hx]))
     ·exact(zjK mx v rs w hs hl hx').mono (fin (by simp[zav,hx]))
     ·by_cases h1:mx=-1
      ·subst h1;exact(zeV 0 v rs w hs hl (by decide)).mono (fin (by simp[zav,zaD];exact zrs (by have:=eq_of_beq hl;omega)))
      ·by_cases h2:btw mx 0 255=true
       ·exact(zda 0 mx v rs w hs hl (by decide) (by simp[h1]) h2).mono (fin (by simp[zav,zaD,h1] at *;simp[btw] at h2;exact⟨hl,h2⟩))
       ·exact(zfG 0 mx v rs w hs hl (by decide) (by simp[h1]) (by simpa using h2)).mono (fin (by simp[zav,zaD,h1];intro _;simp[btw] at h2;omega))
     ·exact(zfJ mx 0 v rs w hs hl hx').mono (fin (by simp[zav,hx]))
   ·have hn':(mn==0)=false:=zsk.2 hn;rcases hk with rfl|rfl|rfl|rfl|rfl
    ·exact(zfK mn mx v rs w hs hn').mono (fin (by simp[zav,hn]))
    ·exact(zjL mn mx v rs w hs hl hn').mono (fin (by simp[zav,hn]))
    ·exact(zjM mn mx v rs w hs hl hn').mono (fin (by simp[zav,hn]))
    ·by_cases h0:btw mn 0 255=true
     ·by_cases h1:mx=-1
      ·subst h1;exact(zeV mn v rs w hs hl h0).mono (fin (by simp[zav,zaD] at *;simp[btw] at h0;exact⟨hl,h0⟩))
      ·by_cases h2:btw mx mn 255=true
       ·exact(zda mn mx v rs w hs hl h0 (by simp[h1]) h2).mono (fin (by simp[zav,zaD,h1] at *;simp[btw] at h0 h2;exact⟨hl,h0,h2⟩))
       ·exact(zfG mn mx v rs w hs hl h0 (by simp[h1]) (by simpa using h2)).mono (fin (by simp[zav,zaD,h1];intro _ _ _;simp[btw] at h2;omega))
     ·exact(zjA mn mx v rs w hs hl (by simpa using h0)).mono (fin (by simp[zav,zaD];simp[btw] at h0;intro _ _;omega))
    ·exact(zfL mn mx 0 v rs w hs hl hn').mono (fin (by simp[zav,hn]))
  ·have hg':(g==0)=false:=zsk.2 hg;rcases hk with rfl|rfl|rfl|rfl|rfl
   ·exact(zfH mn mx g v rs w hs hg').mono (fin (by simp[zav,hg]))
   ·exact(zjB mn mx g v rs w hs hl hg').mono (fin (by simp[zav,hg]))
   ·exact(zjC mn mx g v rs w hs hl hg').mono (fin (by simp[zav,hg]))
   ·exact(zjD mn mx g v rs w hs hl hg').mono (fin (by simp[zav,hg]))
   ·by_cases hn:mn=0
    ·subst hn
     by_cases hx:mx=0
     ·subst hx;exact(zeW g v rs w hs hl).mono (fin (by simp[zav];exact zrs (by have:=eq_of_beq hl;omega)))
     ·exact(zfJ mx g v rs w hs hl (zsk.2 hx)).mono (fin (by simp[zav,hx]))
    ·exact(zfL mn mx g v rs w hs hl (zsk.2 hn)).mono (fin (by simp[zav,hn]))
 ·have hl':((rs.length:Int)==0)=false:=by simpa using hl
  rcases hk with rfl|rfl|rfl|rfl|rfl
  ·by_cases hg:g=0
   ·subst hg
    by_cases hn:mn=0
    ·subst hn
     by_cases hx:mx=0
     ·subst hx;exact(zgM v rs w hs).mono (fin (by simp[zav]))
     ·exact(zfI mx v rs w hs (zsk.2 hx)).mono (fin (by simp[zav,hx]))
    ·exact(zfK mn mx v rs w hs (zsk.2 hn)).mono (fin (by simp[zav,hn]))
   ·exact(zfH mn mx g v rs w hs (zsk.2 hg)).mono (fin (by simp[zav,hg]))
  ·exact(zjF mn mx g v rs w hs hl').mono (fin (by simp[zav,hl']))
  ·exact(zjG mn mx g v rs w hs hl').mono (fin (by simp[zav,hl']))
  ·exact(zjH mn mx g v rs w hs hl').mono (fin (by simp[zav,hl']))
  ·exact(zjI mn mx g v rs w hs hl').mono (fin (by simp[zav,hl']))
def zao(f:Nat->Bool):Array Value:=((List.range 256).map fun c=>Value.bool (f c)).toArray
theorem zau(f:Nat->Bool):(zao f).size=256:=by simp[zao]
theorem zcq(f:Nat->Bool)(i:Nat)(h:i<256):(zao f)[i]?=some (.bool (f i)):=by simp[zao,h]
theorem zc9{f g:Nat->Bool}(h:∀c,c<256->f c=g c):zao f=zao g:=by
 unfold zao;rw[zrP fun c hc=>by rw[h c (by simpa using hc)]]
theorem zii(f:Nat->Bool)(i:Nat):(zao f).setIfInBounds i (.bool true)=zao (fun c=>f c || c==i):=by
 apply Array.ext_getElem?
 intro j;rw[Array.getElem?_setIfInBounds,zau]
 by_cases hj:j<256
 ·rw[zcq _ _ hj,zcq _ _ hj]
  by_cases e:i=j
  ·subst e;simp[hj]
  ·have e':(j==i)=false:=by simp;omega
   simp[e,e']
 ·have h1:∀g,(zao g)[j]?=none:=fun g=>zrb (by rw[zau];omega)
  rw[h1,h1];split<;>simp_all
theorem zbX(f:Nat->Bool):(zao f).all (·.oneCell')=true:=by
 simp[zao,Value.oneCell']
def zc8(f:Nat->Bool)(l k:Nat):Nat->Bool:=fun c=>f c || decide (l<=c/\c<k)
theorem zju(f:Nat->Bool)(l k:Nat)(hk:l<=k):zao (fun c=>zc8 f l k c || c==k)=zao (zc8 f l (k+1)):=by
 apply zc9
 intro c _;unfold zc8;rw[Bool.or_assoc]
 congr 1
 by_cases e:c=k
 ·subst e;simp[hk]
 ·have e':(c==k)=false:=zsk.2 e;rw[e',Bool.or_false,decide_eq_decide];omega
theorem zjv(f:Nat->Bool)(l:Nat):zao (zc8 f l l)=zao f:=zc9 fun c _=>by
 unfold zc8;have:decide (l<=c/\c<l)=false:=by rw[decide_eq_false_iff_not];omega
 rw[this,Bool.or_false]
def zfD(f:Nat->Bool)(lo hi:Int):Nat->Bool:=fun c=>f c || decide (lo<=c/\(c:Int)<=hi)
theorem zlu(f:Nat->Bool)(l k:Nat)(hi:Int)(h:k=l\/(k:Int)<=hi+1)(h2:hi<k):zao (zc8 f l k)=zao (zfD f l hi):=zc9 fun c _=>by
 unfold zc8 zfD
 congr 1
 rw[decide_eq_decide];omega
theorem Tryz.zeroMarks:(Tryz.prog.info? 197).map (fun i=>(i.zero,i.size))=some (some (.agg (zao fun _=>false)),256):=by kernel_rfl
theorem zqx(f:Nat->Bool)(lo hi:Int)(w:World)(h0:0<=lo)(h1:hi<=255):
  Calls Tryz.prog 120 #[.agg (zao f),.int .i64 lo,.int .i64 hi] w fun e w'=>e=.returned (.agg (zao (zfD f lo hi)))/\Below w.heap.size w w':=by
 obtain⟨l,rfl⟩:=Int.eq_ofNat_of_zero_le h0;have hzv:=(zero_of_info Tryz.zeroMarks).1;have hzi:Hid _:=(zero_of_info Tryz.zeroMarks).2
 go_enter Tryz.func120,Tryz.ntmps120
 go_wp2
 go_loopw [7] (fun i wr=>∃k:Nat,l<=k/\(k=l\/(k:Int)<=hi+1)/\i=.int .i64 k/\Below w.heap.size w wr/\wr.heap[w.heap.size]?=some (.cells (zao (zc8 f l k)) 197 (0,0))/\wr.heap[w.heap.size+1]?=some (.cells (zao fun _=>false) 197 (0,0))/\w.heap.size+1<wr.heap.size)
  (fun i _=>(hi+1-intOf i).toNat)
 case atStart=>exact⟨l,zsa _,.inl rfl,rfl,((Below.refl _ _).alloc (zsa _) _).alloc (by simp) _,by rw[heap_alloc2_old,zjv],heap_alloc2_new _ _ _,by simp⟩
 case round=>
  obtain⟨k,hk,hk2,rfl,hb,hr0,hr1,hsz⟩:=hrel
  by_cases hlt:(k:Int)<=hi
  ·have hk3:k<256:=by omega
   have c0:wr.cell? ⟨w.heap.size,k,none⟩=some (.bool (zc8 f l k k)):=by rw[zsm _ _ _ _ _ _ hr0,zcq _ _ hk3]
   have f0:wr.frozen? ⟨w.heap.size,k,none⟩=false:=zso _ _ _ _ _ hr0;generalize zc8 f l k k=old at c0;have H0:Hid _:=hr0;have H1:Hid _:=hr1;clear hr0 hr1;go_wp2
   go_roundw
   case rel=>exact⟨k+1,by omega,by omega,by go_num,hb.setCell (by simp) _,by rw[zsr _ _ _ _ _ _ H0.out,zii,zju _ _ _ hk],by rw[zsq _ _ _ _ (by simp)];exact H1.out,by simpa [World.setCell] using hsz⟩
   case measure=>simp[intOf];omega
  ·have H0:Hid _:=hr0;have H1:Hid _:=hr1;clear hr0 hr1
   go_wp2_with (first|(refine wpList_load_row rfl 197 (.tmp 3) rfl w.heap.size rfl 197 _ (0,0) _ H0.out Tryz.underlying197 rfl (by rw[zau];exact hzi.out) ?_)|(refine wpList_store_row rfl 197 (.tmp 6) _ rfl (w.heap.size+1) _ rfl rfl 197 _ H1.out (by rw[zau];exact hzi.out) (by rw[zau,zau]) (zbX _) ?_))
   refine zsl (v:=.agg (zao (zc8 f l k))) (results_cell_row Tryz.results120 _ _ (w.heap.size+1) 197 _ (0,0) _ rfl (setRow_heap _ _ _ _ _ _ H1.out) Tryz.underlying197 rfl (by rw[zau];exact hzi.out)) rfl ⟨?_,Below.setRow hb (by omega) _⟩;rw[zlu f l k hi hk2 (by omega)]
def zcH(rs:List (Int×Int)):Nat->Bool:=rs.foldl (fun f r=>zfD f r.1 r.2) (fun _=>false)
theorem zjw(rs:List (Int×Int))(k:Nat)(hk:k<rs.length)(a b:Int)(h:rs.getD k (0,0)=(a,b)):zcH (rs.take (k+1))=zfD (zcH (rs.take k)) a b:=by
 unfold zcH;rw[zr7 hk,List.foldl_append];have:rs[k]=(a,b):=by rw[<-h];simp[List.getD,hk]
 rw[this]
 rfl
theorem zfX:∀(rs:List (Int×Int)) (least:Int),0<=least->zaZ least rs=true->∀k,k<rs.length->0<=(rs.getD k (0,0)).1/\(rs.getD k (0,0)).2<=255
 |[],_,_,_,k,hk=>absurd hk (zsg _)
 |(a,b)::r,least,hl,h,k,hk=>by
  unfold zaZ at h
  by_cases hc:a<least\/b<a\/255<b
  ·rw[zst hc] at h;cases h
  ·rw[zss hc] at h;cases k with
   |zero=>simp[List.getD];omega
   |succ k=>exact zfX r (b+2) (by omega) h k (by simpa using hk)
theorem zlw{lo:Nat}(v:Value)(rs:List (Int×Int))(w:World)(hs:zag lo w v rs)(hok:zaZ 0 rs=true):
  Calls Tryz.prog 101 #[v] w fun e w'=>e=.returned (.agg (zao (zcH rs)))/\Below w.heap.size w w':=by
 obtain⟨ao,cap,rfl,hm,hc⟩:=hs;have Hok:Hid _:=hok;clear hok;have hzv:=(zero_of_info Tryz.zeroMarks).1;have hzi:Hid _:=(zero_of_info Tryz.zeroMarks).2;have hbd:=fun w=>run_build (P:=Tryz.prog) w 197 #[] (zao fun _=>false) (by kernel_rfl)
 go_enter Tryz.func101,Tryz.ntmps101
 go_wp2_with (refine wpList_store_row rfl 197 (.tmp 3) _ rfl (w.heap.size+1) _ rfl rfl 197 _ (heap_alloc2_new _ _ _) (by rw[zau];exact hzi.out) (by rw[zau]) (zbX _) ?_)
 have hW:Below w.heap.size w (((w.alloc (.cells (zao fun _=>false) 197)).alloc (.cells (zao fun _=>false) 197)).setRow (w.heap.size+1) (zao fun _=>false)):=Below.setRow (((Below.refl _ _).alloc (zsa _) _).alloc (by simp) _) (by omega) _;have hR0:Hid ((((w.alloc (.cells (zao fun _=>false) 197)).alloc (.cells (zao fun _=>false) 197)).setRow (w.heap.size+1) (zao fun _=>false)).heap[w.heap.size]?=some (.cells (zao fun _=>false) 197 (0,0))):=by show _=_;rw[setRow_other _ _ _ _ (by omega),heap_alloc2_old]
 have hR1:Hid ((((w.alloc (.cells (zao fun _=>false) 197)).alloc (.cells (zao fun _=>false) 197)).setRow (w.heap.size+1) (zao fun _=>false)).heap[w.heap.size+1]?=some (.cells (zao fun _=>false) 197 (0,0))):=setRow_heap _ _ _ _ _ _ (heap_alloc2_new _ _ _)
 go_loopw [9] (fun i wr=>∃k:Nat,k<=rs.length/\i=.int .i64 k/\Below w.heap.size w wr/\Hid (wr.heap[w.heap.size]?=some (.cells (zao fun _=>false) 197 (0,0)))/\Hid (wr.heap[w.heap.size+1]?=some (.cells (zao (zcH (rs.take k))) 197 (0,0)))/\w.heap.size+1<wr.heap.size)
  (fun i _=>rs.length-(intOf i).toNat)
 case atStart=>exact⟨0,zsj _,rfl,hW,hR0,hR1,by simp⟩
 case round=>
  obtain⟨k,hk,rfl,hb,H0,H1,hsz⟩:=hrel
  by_cases hlt:k<rs.length
  ·obtain⟨b,o,x,y,rfl,Hn,hbl,c0,c1⟩:=hc.elem hb hlt;obtain⟨hx0,hy1⟩:=zfX rs 0 (by omega) Hok.out k hlt;rw[Hn.out] at hx0 hy1;simp only at hx0 hy1;have hba:Below w.heap.size w (wr.alloc (.cells #[.int .i64 x,.int .i64 y] 149)):=hb.alloc hb.size _;have H0a:Hid _:=zah (ob:=.cells #[.int .i64 x,.int .i64 y] 149) H0.out;have H1a:Hid _:=zah (ob:=.cells #[.int .i64 x,.int .i64 y] 149) H1.out;have HT:Hid _:=zjw rs k hlt x y Hn.out;generalize zcH (rs.take k)=F at H1a HT
   go_wp2_with (first|(refine wpList_load_row rfl 197 (.tmp 3) rfl (w.heap.size+1) rfl 197 _ (0,0) _ H1a.out Tryz.underlying197 rfl (by rw[zau];exact hzi.out) ?_)|(go_at_call 120;refine(zqx _ _ _ _ hx0 hy1).mono ?_;rintro e w2 ⟨rfl,hb2⟩;have H0b:Hid _:=(hb2.block w.heap.size (by simp;omega)).trans H0a.out;have H1b:Hid _:=(hb2.block (w.heap.size+1) (by simp;omega)).trans H1a.out;have hbb:=zaa hba hba.size hb2;have hsz2:=hb2.size)|(refine wpList_store_row rfl 197 (.tmp 3) _ rfl (w.heap.size+1) _ rfl rfl 197 _ H1b.out (by rw[zau];exact hzi.out) (by rw[zau,zau]) (zbX _) ?_))
   go_roundw
   case rel=>exact⟨k+1,by omega,by go_num,Below.setRow hbb (by omega) _,by show _=_;rw[setRow_other _ _ _ _ (by omega)];exact H0b.out,by show _=_;rw[setRow_heap _ _ _ _ _ _ H1b.out,HT.out],by simp at hsz2 ⊢;omega⟩
   case measure=>simp[intOf];omega
  ·have hkk:rs.take k=rs:=zr5 (by omega);rw[hkk] at H1
   go_wp2_with (first|(refine wpList_load_row rfl 197 (.tmp 3) rfl (w.heap.size+1) rfl 197 _ (0,0) _ H1.out Tryz.underlying197 rfl (by rw[zau];exact hzi.out) ?_)|(refine wpList_store_row rfl 197 (.tmp 2) _ rfl w.heap.size _ rfl rfl 197 _ H0.out (by rw[zau];exact hzi.out) (by rw[zau,zau]) (zbX _) ?_))
   exact zsl (v:=.agg (zao (zcH rs))) (results_cell_row Tryz.results101 _ _ w.heap.size 197 _ (0,0) _ rfl (setRow_heap _ _ _ _ _ _ H0.out) Tryz.underlying197 rfl (by rw[zau];exact hzi.out)) rfl ⟨rfl,Below.setRow hb (by omega) _⟩
end Go.Proofs.YthdljcdbfmhleaaGreatDoor
