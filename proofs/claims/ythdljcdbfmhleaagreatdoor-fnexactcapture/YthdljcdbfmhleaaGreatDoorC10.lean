import Derived.Test.YthdljcdbfmhleaaGreatDoorC9
import Derived.Deep.Light
namespace Go.Proofs.YthdljcdbfmhleaaGreatDoor
set_option maxHeartbeats 400000
set_option maxRecDepth 100000
open Go.RowKit
variable {lo:Nat}
def zaZ:Int->List (Int×Int)->Bool
 |_,[]=>true
 |least,(lo,hi)::r=>if lo<least\/hi<lo\/255<hi then false else zaZ (hi+2) r
theorem zeb(rs:List (Int×Int))(i:Nat)(hi:i<rs.length)(least a b:Int)(h:rs.getD i (0,0)=(a,b)):
  zaZ least (rs.drop i)=if a<least\/b<a\/255<b then false else zaZ (b+2) (rs.drop (i+1)):=by
 rw[zrp hi];have:rs[i]=(a,b):=by rw[<-h];simp[List.getD,hi]
 rw[this]
 rfl
theorem zhz(v:Value)(rs:List (Int×Int))(w:World)(hs:zag lo w v rs):
  Calls Tryz.prog 98 #[v] w fun e w'=>e=.returned (.bool (zaZ 0 rs))/\Below w.heap.size w w':=by
 obtain⟨ao,cap,rfl,hm,hc⟩:=hs
 go_enter Tryz.func98,Tryz.ntmps98
 go_wp2
 go_loopw [3,8] (fun l i wr=>∃k:Nat,k<=rs.length/\i=.int .i64 k/\∃L:Int,l=.int .i64 L/\0<=L/\L<=257/\Hid (zaZ 0 rs=zaZ L (rs.drop k))/\Below w.heap.size w wr)
  (fun _ i _=>rs.length-(intOf i).toNat)
 case atStart=>exact⟨0,zsj _,rfl,_,rfl,by omega,by omega,rfl,Below.refl _ _⟩
 case round=>
  obtain⟨k,hk,rfl,L,rfl,hL0,hL1,HS,hb⟩:=hrel
  by_cases hlt:k<rs.length
  ·obtain⟨b,o,x,y,rfl,Hn,hbl,c0,c1⟩:=hc.elem hb hlt;have hz:=hb.size;have hba:Below w.heap.size w (wr.alloc (.cells #[.int .i64 x,.int .i64 y] 149)):=hb.alloc hz _;have HD:Hid (zaZ L (rs.drop k)=if x<L\/y<x\/255<y then false else zaZ (y+2) (rs.drop (k+1))):=zeb rs k hlt L x y Hn.out
   by_cases h1:x<L
   ·go_wp2;go_ret;exact⟨zam (by rw[HS.out,HD.out,zst (by omega)]),hba⟩
   by_cases h2:y<x
   ·go_wp2;go_ret;exact⟨zam (by rw[HS.out,HD.out,zst (by omega)]),hba⟩
   by_cases h3:255<y
   ·go_wp2;go_ret;exact⟨zam (by rw[HS.out,HD.out,zst (by omega)]),hba⟩
   go_wp2
   go_roundw
   case rel=>exact⟨k+1,by omega,by go_num,_,rfl,by omega,by omega,by show _=_;rw[HS.out,HD.out,zss (by omega)],hba⟩
   case measure=>simp[intOf];omega
  ·go_wp2;go_ret;exact⟨zam (by rw[HS.out,zrq (by omega)];rfl),hb⟩
def zav(n:zak):Bool:=
 if n.kind=1 then zaZ 0 n.set&&(n.min==0&&n.max==0)&&n.group==0
 else if n.kind=2\/n.kind=3 then ((n.set.length:Int)==0)&&(n.min==0&&n.max==0)&&n.group==0
 else if n.kind=4 then ((n.set.length:Int)==0)&&zaD n.min n.max&&n.group==0
 else if n.kind=5 then ((n.set.length:Int)==0)&&(n.min==0&&n.max==0)
 else false
theorem zbx(k mn mx g:Int)(v:Value)(rs:List (Int×Int))(w:World)(hs:zag lo w v rs):
  Calls Tryz.prog 77 #[.agg #[.int .i64 k,v,.int .i64 mn,.int .i64 mx,.int .i64 g]] w fun e w'=>e=.returned (.bool (zav ⟨k,rs,mn,mx,g⟩))/\Below w.heap.size w w':=by
 have ha:=(Below.refl w.heap.size w).alloc (zsa _) (.cells #[.int .i64 k,v,.int .i64 mn,.int .i64 mx,.int .i64 g] 72);have hs':=hs.below ha;obtain⟨ao,cap,rfl,hm,hc⟩:=hs
 by_cases h1:k=1
 ·subst h1;have H1:Hid (zav ⟨1,rs,mn,mx,g⟩=(zaZ 0 rs&&(mn==0&&mx==0)&&g==0)):=by show _=_;simp[zav]
  by_cases hmn:mn=0
  ·by_cases hmx:mx=0
   ·subst hmn hmx
    go_enter Tryz.func77,Tryz.ntmps77
    go_wp2_with (go_at_call 98;refine(zhz _ _ _ hs').mono ?_;rintro e w2 ⟨rfl,hb2⟩)
    all_goals
     go_ret
     exact⟨zam (by rw[H1.out];clear hb2 ha hs' hc H1;go_light;simp_all),zaa ha (by simp) hb2⟩
   ·subst hmn;have e0:(mx==0)=false:=zsk.2 hmx;clear hmx
    go_enter Tryz.func77,Tryz.ntmps77
    go_wp2_with (go_at_call 98;refine(zhz _ _ _ hs').mono ?_;rintro e w2 ⟨rfl,hb2⟩)
    all_goals
     go_ret
     exact⟨zam (by rw[H1.out];clear hb2 ha hs' hc H1;go_light;simp_all),zaa ha (by simp) hb2⟩
  ·have e0:(mn==0)=false:=zsk.2 hmn;clear hmn
   go_enter Tryz.func77,Tryz.ntmps77
   go_wp2_with (go_at_call 98;refine(zhz _ _ _ hs').mono ?_;rintro e w2 ⟨rfl,hb2⟩)
   all_goals
    go_ret
    exact⟨zam (by rw[H1.out];clear hb2 ha hs' hc H1;go_light;simp_all),zaa ha (by simp) hb2⟩
 by_cases h2:k=2
 ·subst h2;clear hs'
  go_enter Tryz.func77,Tryz.ntmps77
  go_wp2
  all_goals
   go_ret
   exact⟨zam (by clear ha hc;go_light;simp_all [zav]),(Below.refl _ _).alloc (zsa _) _⟩
 by_cases h3:k=3
 ·subst h3;clear hs'
  go_enter Tryz.func77,Tryz.ntmps77
  go_wp2
  all_goals
   go_ret
   exact⟨zam (by clear ha hc;go_light;simp_all [zav]),(Below.refl _ _).alloc (zsa _) _⟩
 by_cases h4:k=4
 ·subst h4;clear hs'
  go_enter Tryz.func77,Tryz.ntmps77
  go_wp2_with (go_at_call 99;refine(zi2 _ _ _).mono ?_;rintro e w2 ⟨rfl,rfl⟩)
  all_goals
   go_ret
   exact⟨zam (by clear ha hc;go_light;simp_all [zav]),(Below.refl _ _).alloc (zsa _) _⟩
 by_cases h5:k=5
 ·subst h5;clear hs'
  go_enter Tryz.func77,Tryz.ntmps77
  go_wp2
  all_goals
   go_ret
   exact⟨zam (by clear ha hc;go_light;simp_all [zav]),(Below.refl _ _).alloc (zsa _) _⟩
 have e1:(k==1)=false:=zsk.2 h1;have e2:(k==2)=false:=zsk.2 h2;have e3:(k==3)=false:=zsk.2 h3;have e4:(k==4)=false:=zsk.2 h4;have e5:(k==5)=false:=zsk.2 h5;have HN:Hid (zav ⟨k,rs,mn,mx,g⟩=false):=by show _=_;simp[zav,h1,h2,h3,h4,h5]
 clear h1 h2 h3 h4 h5 hs'
 go_enter Tryz.func77,Tryz.ntmps77
 go_wp2
 all_goals
  go_ret
  exact⟨zam HN.out.symm,(Below.refl _ _).alloc (zsa _) _⟩
end Go.Proofs.YthdljcdbfmhleaaGreatDoor
