import Derived.Test.YtdimhpfiieepiaaGreatDoorC1
import Derived.Deep.Light
namespace Go.Proofs.YtdimhpfiieepiaaGreatDoor
open Proofs.Tryz
set_option maxHeartbeats 400000
set_option maxRecDepth 100000
open Go.RowKit
variable {lo:Nat}
def ny:Int->List (Int×Int)->Bool
 |_,[]=>true
 |least,(lo,hi)::r=>if lo<least\/hi<lo\/255<hi then false else ny (hi+2) r
theorem zfa(rs:List (Int×Int))(i:Nat)(hi:i<rs.length)(least a b:Int)(h:rs.getD i (0,0)=(a,b)):
  ny least (rs.drop i)=if a<least\/b<a\/255<b then false else ny (b+2) (rs.drop (i+1)):=by
 rw[oC hi];have:rs[i]=(a,b):=by rw[<-h];simp[List.getD,hi]
 rw[this]
 rfl
theorem We(v:Value)(rs:List (Int×Int))(w:World)(hs:dD lo w v rs):
  Calls prog 176 #[v] w λe w'=>e=.returned (.bool (ny 0 rs))/\Below w.heap.size w w':=by
 obtain⟨ao,cap,rfl,hm,hc⟩:=hs
 go_enter func176,ntmps176
 go_wp2
 go_loopw [3,8] (λl i wr=>∃k:Nat,k<=rs.length/\i=.int .i64 k/\∃L:Int,l=.int .i64 L/\0<=L/\L<=257/\Hid (ny 0 rs=ny L (rs.drop k))/\Below w.heap.size w wr)
  (λ_ i _=>rs.length-(intOf i).toNat)
 case atStart=>exact⟨0,aZ _,rfl,_,rfl,by omega,by omega,rfl,Below.refl _ _⟩
 case round=>
  obtain⟨k,hk,rfl,L,rfl,uw,mO,HS,hb⟩:=hrel
  by_cases hlt:k<rs.length
  ·obtain⟨b,o,x,y,rfl,Hn,bu,c0,c1⟩:=hc.elem hb hlt;have hz:=hb.size;have bB:Below w.heap.size w (wr.alloc (.cells #[.int .i64 x,.int .i64 y] 211)):=hb.alloc hz _;have HD:Hid (ny L (rs.drop k)=if x<L\/y<x\/255<y then false else ny (y+2) (rs.drop (k+1))):=zfa rs k hlt L x y Hn.out
   by_cases h1:x<L
   ·go_wp2;go_ret;exact⟨bF (by rw[HS.out,HD.out,aD (by omega)]),bB⟩
   by_cases h2:y<x
   ·go_wp2;go_ret;exact⟨bF (by rw[HS.out,HD.out,aD (by omega)]),bB⟩
   by_cases h3:255<y
   ·go_wp2;go_ret;exact⟨bF (by rw[HS.out,HD.out,aD (by omega)]),bB⟩
   go_wp2
   go_roundw
   case rel=>exact⟨k+1,by omega,by go_num,_,rfl,by omega,by omega,by show _=_;rw[HS.out,HD.out,aq (by omega)],bB⟩
   case measure=>simp[intOf];omega
  ·go_wp2;go_ret;exact⟨bF (by rw[HS.out,sA (by omega)];rfl),hb⟩
def aX(n:aM):Bool:=
 if n.kind=1 then ny 0 n.set&&(n.min==0&&n.max==0)&&n.group==0
 else if n.kind=2\/n.kind=3 then ((n.set.length:Int)==0)&&(n.min==0&&n.max==0)&&n.group==0
 else if n.kind=4 then ((n.set.length:Int)==0)&&eK n.min n.max&&n.group==0
 else if n.kind=5 then ((n.set.length:Int)==0)&&(n.min==0&&n.max==0)
 else false
theorem EP(k mn mx g:Int)(v:Value)(rs:List (Int×Int))(w:World)(hs:dD lo w v rs):
  Calls prog 156 #[.agg #[.int .i64 k,v,.int .i64 mn,.int .i64 mx,.int .i64 g]] w λe w'=>e=.returned (.bool (aX ⟨k,rs,mn,mx,g⟩))/\Below w.heap.size w w':=by
 have ha:=(Below.refl w.heap.size w).alloc (ai _) (.cells #[.int .i64 k,v,.int .i64 mn,.int .i64 mx,.int .i64 g] 149);have mX:=hs.below ha;obtain⟨ao,cap,rfl,hm,hc⟩:=hs
 by_cases h1:k=1
 ·subst h1;have H1:Hid (aX ⟨1,rs,mn,mx,g⟩=(ny 0 rs&&(mn==0&&mx==0)&&g==0)):=by show _=_;simp[aX]
  by_cases mS:mn=0
  ·by_cases hmx:mx=0
   ·subst mS hmx
    go_enter func156,ntmps156
    go_wp2_with (go_at_call 176;refine(We _ _ _ mX).mono ?_;rintro e w2 ⟨rfl,af⟩)
    all_goals
     go_ret
     exact⟨bF (by rw[H1.out];clear af ha mX hc H1;go_light;simp_all),aj ha (by simp) af⟩
   ·subst mS;have e0:(mx==0)=false:=eu.2 hmx;clear hmx
    go_enter func156,ntmps156
    go_wp2_with (go_at_call 176;refine(We _ _ _ mX).mono ?_;rintro e w2 ⟨rfl,af⟩)
    all_goals
     go_ret
     exact⟨bF (by rw[H1.out];clear af ha mX hc H1;go_light;simp_all),aj ha (by simp) af⟩
  ·have e0:(mn==0)=false:=eu.2 mS;clear mS
   go_enter func156,ntmps156
   go_wp2_with (go_at_call 176;refine(We _ _ _ mX).mono ?_;rintro e w2 ⟨rfl,af⟩)
   all_goals
    go_ret
    exact⟨bF (by rw[H1.out];clear af ha mX hc H1;go_light;simp_all),aj ha (by simp) af⟩
 by_cases h2:k=2
 ·subst h2;clear mX
  go_enter func156,ntmps156
  go_wp2
  all_goals
   go_ret
   exact⟨bF (by clear ha hc;go_light;simp_all [aX]),au⟩
 by_cases h3:k=3
 ·subst h3;clear mX
  go_enter func156,ntmps156
  go_wp2
  all_goals
   go_ret
   exact⟨bF (by clear ha hc;go_light;simp_all [aX]),au⟩
 by_cases h4:k=4
 ·subst h4;clear mX
  go_enter func156,ntmps156
  go_wp2_with (go_at_call 177;refine(zkS _ _ _).mono ?_;rintro e w2 ⟨rfl,rfl⟩)
  all_goals
   go_ret
   exact⟨bF (by clear ha hc;go_light;simp_all [aX]),au⟩
 by_cases h5:k=5
 ·subst h5;clear mX
  go_enter func156,ntmps156
  go_wp2
  all_goals
   go_ret
   exact⟨bF (by clear ha hc;go_light;simp_all [aX]),au⟩
 have e1:(k==1)=false:=eu.2 h1;have e2:(k==2)=false:=eu.2 h2;have e3:(k==3)=false:=eu.2 h3;have e4:(k==4)=false:=eu.2 h4;have e5:(k==5)=false:=eu.2 h5;have HN:Hid (aX ⟨k,rs,mn,mx,g⟩=false):=by show _=_;simp[aX,h1,h2,h3,h4,h5]
 clear h1 h2 h3 h4 h5 mX
 go_enter func156,ntmps156
 go_wp2
 all_goals
  go_ret
  exact⟨bF HN.out.symm,au⟩
end Go.Proofs.YtdimhpfiieepiaaGreatDoor
