import Derived.Test.YthddplbodacjgaaGreatDoorC1
import Derived.Deep.Light
namespace Go.Proofs.YthddplbodacjgaaGreatDoor
set_option maxHeartbeats 400000
set_option maxRecDepth 100000
open Go.RowKit
variable {lo:Nat}
def zbp:Int->List (Int×Int)->Bool
 |_,[]=>true
 |least,(lo,hi)::r=>if lo<least\/hi<lo\/255<hi then false else zbp (hi+2) r
theorem zfa(rs:List (Int×Int))(i:Nat)(hi:i<rs.length)(least a b:Int)(h:rs.getD i (0,0)=(a,b)):
  zbp least (rs.drop i)=if a<least\/b<a\/255<b then false else zbp (b+2) (rs.drop (i+1)):=by
 rw[ztG hi];have:rs[i]=(a,b):=by rw[<-h];simp[List.getD,hi]
 rw[this]
 rfl
theorem ziX(v:Value)(rs:List (Int×Int))(w:World)(hs:zan lo w v rs):
  Calls Tryz.prog 117 #[v] w fun e w'=>e=.returned (.bool (zbp 0 rs))/\Below w.heap.size w w':=by
 obtain⟨ao,cap,rfl,hm,hc⟩:=hs
 go_enter Tryz.func117,Tryz.ntmps117
 go_wp2
 go_loopw [3,8] (fun l i wr=>∃k:Nat,k<=rs.length/\i=.int .i64 k/\∃L:Int,l=.int .i64 L/\0<=L/\L<=257/\Hid (zbp 0 rs=zbp L (rs.drop k))/\Below w.heap.size w wr)
  (fun _ i _=>rs.length-(intOf i).toNat)
 case atStart=>exact⟨0,zuL _,rfl,_,rfl,by omega,by omega,rfl,Below.refl _ _⟩
 case round=>
  obtain⟨k,hk,rfl,L,rfl,hL0,hL1,HS,hb⟩:=hrel
  by_cases hlt:k<rs.length
  ·obtain⟨b,o,x,y,rfl,Hn,hbl,c0,c1⟩:=hc.elem hb hlt;have hz:=hb.size;have hba:Below w.heap.size w (wr.alloc (.cells #[.int .i64 x,.int .i64 y] 150)):=hb.alloc hz _;have HD:Hid (zbp L (rs.drop k)=if x<L\/y<x\/255<y then false else zbp (y+2) (rs.drop (k+1))):=zfa rs k hlt L x y Hn.out
   by_cases h1:x<L
   ·go_wp2;go_ret;exact⟨zay (by rw[HS.out,HD.out,zuV (by omega)]),hba⟩
   by_cases h2:y<x
   ·go_wp2;go_ret;exact⟨zay (by rw[HS.out,HD.out,zuV (by omega)]),hba⟩
   by_cases h3:255<y
   ·go_wp2;go_ret;exact⟨zay (by rw[HS.out,HD.out,zuV (by omega)]),hba⟩
   go_wp2
   go_roundw
   case rel=>exact⟨k+1,by omega,by go_num,_,rfl,by omega,by omega,by show _=_;rw[HS.out,HD.out,zuU (by omega)],hba⟩
   case measure=>simp[intOf];omega
  ·go_wp2;go_ret;exact⟨zay (by rw[HS.out,ztH (by omega)];rfl),hb⟩
def zaK(n:zau):Bool:=
 if n.kind=1 then zbp 0 n.set&&(n.min==0&&n.max==0)&&n.group==0
 else if n.kind=2\/n.kind=3 then ((n.set.length:Int)==0)&&(n.min==0&&n.max==0)&&n.group==0
 else if n.kind=4 then ((n.set.length:Int)==0)&&zaY n.min n.max&&n.group==0
 else if n.kind=5 then ((n.set.length:Int)==0)&&(n.min==0&&n.max==0)
 else false
theorem zcb(k mn mx g:Int)(v:Value)(rs:List (Int×Int))(w:World)(hs:zan lo w v rs):
  Calls Tryz.prog 111 #[.agg #[.int .i64 k,v,.int .i64 mn,.int .i64 mx,.int .i64 g]] w fun e w'=>e=.returned (.bool (zaK ⟨k,rs,mn,mx,g⟩))/\Below w.heap.size w w':=by
 have ha:=(Below.refl w.heap.size w).alloc (zuz _) (.cells #[.int .i64 k,v,.int .i64 mn,.int .i64 mx,.int .i64 g] 144);have hs':=hs.below ha;obtain⟨ao,cap,rfl,hm,hc⟩:=hs
 by_cases h1:k=1
 ·subst h1;have H1:Hid (zaK ⟨1,rs,mn,mx,g⟩=(zbp 0 rs&&(mn==0&&mx==0)&&g==0)):=by show _=_;simp[zaK]
  by_cases hmn:mn=0
  ·by_cases hmx:mx=0
   ·subst hmn hmx
    go_enter Tryz.func111,Tryz.ntmps111
    go_wp2_with (go_at_call 117;refine(ziX _ _ _ hs').mono ?_;rintro e w2 ⟨rfl,hb2⟩)
    all_goals
     go_ret
     exact⟨zay (by rw[H1.out];clear hb2 ha hs' hc H1;go_light;simp_all),zaa ha (by simp) hb2⟩
   ·subst hmn;have e0:(mx==0)=false:=zuM.2 hmx;clear hmx
    go_enter Tryz.func111,Tryz.ntmps111
    go_wp2_with (go_at_call 117;refine(ziX _ _ _ hs').mono ?_;rintro e w2 ⟨rfl,hb2⟩)
    all_goals
     go_ret
     exact⟨zay (by rw[H1.out];clear hb2 ha hs' hc H1;go_light;simp_all),zaa ha (by simp) hb2⟩
  ·have e0:(mn==0)=false:=zuM.2 hmn;clear hmn
   go_enter Tryz.func111,Tryz.ntmps111
   go_wp2_with (go_at_call 117;refine(ziX _ _ _ hs').mono ?_;rintro e w2 ⟨rfl,hb2⟩)
   all_goals
    go_ret
    exact⟨zay (by rw[H1.out];clear hb2 ha hs' hc H1;go_light;simp_all),zaa ha (by simp) hb2⟩
 by_cases h2:k=2
 ·subst h2;clear hs'
  go_enter Tryz.func111,Tryz.ntmps111
  go_wp2
  all_goals
   go_ret
   exact⟨zay (by clear ha hc;go_light;simp_all [zaK]),(Below.refl _ _).alloc (zuz _) _⟩
 by_cases h3:k=3
 ·subst h3;clear hs'
  go_enter Tryz.func111,Tryz.ntmps111
  go_wp2
  all_goals
   go_ret
   exact⟨zay (by clear ha hc;go_light;simp_all [zaK]),(Below.refl _ _).alloc (zuz _) _⟩
 by_cases h4:k=4
 ·subst h4;clear hs'
  go_enter Tryz.func111,Tryz.ntmps111
  go_wp2_with (go_at_call 118;refine(zkG _ _ _).mono ?_;rintro e w2 ⟨rfl,rfl⟩)
  all_goals
   go_ret
   exact⟨zay (by clear ha hc;go_light;simp_all [zaK]),(Below.refl _ _).alloc (zuz _) _⟩
 by_cases h5:k=5
 ·subst h5;clear hs'
  go_enter Tryz.func111,Tryz.ntmps111
  go_wp2
  all_goals
   go_ret
   exact⟨zay (by clear ha hc;go_light;simp_all [zaK]),(Below.refl _ _).alloc (zuz _) _⟩
 have e1:(k==1)=false:=zuM.2 h1;have e2:(k==2)=false:=zuM.2 h2;have e3:(k==3)=false:=zuM.2 h3;have e4:(k==4)=false:=zuM.2 h4;have e5:(k==5)=false:=zuM.2 h5;have HN:Hid (zaK ⟨k,rs,mn,mx,g⟩=false):=by show _=_;simp[zaK,h1,h2,h3,h4,h5]
 clear h1 h2 h3 h4 h5 hs'
 go_enter Tryz.func111,Tryz.ntmps111
 go_wp2
 all_goals
  go_ret
  exact⟨zay HN.out.symm,(Below.refl _ _).alloc (zuz _) _⟩
end Go.Proofs.YthddplbodacjgaaGreatDoor
