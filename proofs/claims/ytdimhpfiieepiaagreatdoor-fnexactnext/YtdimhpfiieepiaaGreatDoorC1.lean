import Derived.Test.YtdimhpfiieepiaaGreatDoorC0
import Derived.Deep.RegionHeld3
import Derived.Deep.DrawnRows
import Derived.Deep.AppendLies
namespace Go.Proofs.YtdimhpfiieepiaaGreatDoor
open Proofs.Tryz
open Value renaming int->za,agg->zg
open Option renaming some->zb,none->zc
open Go renaming World->zd,Calls->ze,Value->zh
open RowKit renaming Below->zf
set_option maxHeartbeats 400000
set_option maxRecDepth 100000
open Go.RowKit
section
variable {l1 l2:Nat}
attribute [local go_sem ↓] wp_at_zero wp_at_succ
theorem znc(lo hi:Int)(w:zd):
  ze prog 203 #[zg #[za .i64 lo,za .i64 hi],zg #[za .i64 lo,za .i64 hi]] w λe w'=>e=.returned (.bool true)/\zf w.heap.size w w':=by
 go_enter func203,ntmps203
 go_wp2;go_ret;exact⟨rfl,(au).alloc (by simp) _⟩
theorem zk5(v v2:zh)(rs:List (Int×Int))(w:zd)(hs:dD l1 w v rs)(cZ:dD l2 w v2 rs):
  ze prog 196 #[v,v2] w λe w'=>e=.returned (.bool true)/\zf w.heap.size w w':=by
 obtain⟨ao,cap,rfl,hm,hc⟩:=hs;obtain⟨iG,fe,rfl,_,dx⟩:=cZ
 go_enter func196,ntmps196
 go_wp2
 go_loopw [5] (λi wr=>∃k:Nat,k<=rs.length/\i=za .i64 k/\zf w.heap.size w wr)
  (λi _=>rs.length-(intOf i).toNat)
 case atStart=>exact⟨0,aZ _,rfl,Below.refl _ _⟩
 case round=>
  obtain⟨k,hk,rfl,hb⟩:=hrel
  by_cases hlt:k<rs.length
  ·obtain⟨b,o,lo,hi,rfl,Hn,bu,c0,c1⟩:=hc.elem hb hlt;obtain⟨b2,o2,lo2,th,rfl,fQ,j8,d0,d1⟩:=dx.elem hb hlt;have uA:=Hn.out.symm.trans fQ.out;simp only[Prod.mk.injEq]at uA;obtain⟨rfl,rfl⟩:=uA;have aB:b<wr.heap.size:=bA bu hb.size;have jr:b2<wr.heap.size:=bA j8 hb.size;have dO:(0:Int)<=(k:Int):=by omega
   have dh:(k:Int)<(rs.length:Int):=by omega
   go_wp2
   go_region_held3 (λw'=>w'.cell? ⟨b,o+k*2,zc⟩=zb (za .i64 lo)/\w'.cell? ⟨b,o+k*2+1,zc⟩=zb (za .i64 hi)/\w'.cell? ⟨b2,o2+k*2,zc⟩=zb (za .i64 lo)/\w'.cell? ⟨b2,o2+k*2+1,zc⟩=zb (za .i64 hi)) ((first|go_keep|exact⟨(hcc _ _ aB).trans c0,(hcc _ _ aB).trans c1,(hcc _ _ jr).trans d0,(hcc _ _ jr).trans d1⟩)) ((go_at_call 203;refine(znc _ _ _).mono ?_;rintro e w2 ⟨rfl,af⟩;obtain⟨hcc,_⟩:=vi af))
   go_wp2
   go_roundw
   case rel=>exact⟨k+1,by omega,by go_num,aj hb.drew hb.size af⟩
   case measure=>simp[intOf];omega
  ·go_wp2;go_ret;exact⟨rfl,hb⟩
theorem zoM(k mn mx g:Int)(v v2:zh)(rs:List (Int×Int))(w:zd)(hs:dD l1 w v rs)(cZ:dD l2 w v2 rs):
  ze prog 173 #[zg #[za .i64 k,v,za .i64 mn,za .i64 mx,za .i64 g],zg #[za .i64 k,v2,za .i64 mn,za .i64 mx,za .i64 g]] w λe w'=>e=.returned (.bool true)/\zf w.heap.size w w':=by
 go_enter func173,ntmps173
 go_wp2_with fail
 refine(zk5 (l1:=l1) (l2:=l2) _ _ rs _ (hs.below ?_) (cZ.below ?_)).mono ?_
 ·exact(au).alloc (by simp) _
 ·exact(au).alloc (by simp) _
 rintro e w2 ⟨rfl,hb⟩;obtain⟨hcc,Ec⟩:=vi hb;have cX:=((((Below.refl w.heap.size w).alloc (ai _) _).alloc (by simp) _).trans (hb.mono (by simp;omega)));clear hb;go_wp2;go_ret;exact⟨rfl,cX⟩
theorem zna(v v2:zh)(rs:List aM)(w:zd)(hs:dU l1 w v rs)(cZ:dU l2 w v2 rs):
  ze prog 152 #[v,v2] w λe w'=>e=.returned (.bool true)/\zf w.heap.size w w':=by
 obtain⟨ao,cap,rfl,hm,hc⟩:=hs;obtain⟨iG,fe,rfl,_,dx⟩:=cZ
 go_enter func152,ntmps152
 go_wp2
 go_loopw [5] (λi wr=>∃k:Nat,k<=rs.length/\i=za .i64 k/\zf w.heap.size w wr)
  (λi _=>rs.length-(intOf i).toNat)
 case atStart=>exact⟨0,aZ _,rfl,Below.refl _ _⟩
 case round=>
  obtain⟨k,hk,rfl,hb⟩:=hrel
  by_cases hlt:k<rs.length
  ·obtain⟨b,o,sv,nd,rfl,Hn,bu,c0,c1,c2,c3,c4,di⟩:=hc.elem hb hlt;obtain⟨b2,o2,CT,Lf,rfl,fQ,j8,d0,d1,d2,d3,d4,GZ⟩:=dx.elem hb hlt;have uA:nd=Lf:=Hn.out.symm.trans fQ.out;subst uA;have aB:b<wr.heap.size:=bA bu hb.size;have jr:b2<wr.heap.size:=bA j8 hb.size;have dO:(0:Int)<=(k:Int):=by omega
   have dh:(k:Int)<(rs.length:Int):=by omega
   have qA:dD l1 wr.drew sv nd.set:=di;have nY:dD l2 wr.drew CT nd.set:=GZ;go_wp2
   go_region_held3 (λw'=>w'.cell? ⟨b,o+k*5,zc⟩=zb (za .i64 nd.kind)/\w'.cell? ⟨b,o+k*5+1,zc⟩=zb sv/\w'.cell? ⟨b,o+k*5+2,zc⟩=zb (za .i64 nd.min)/\w'.cell? ⟨b,o+k*5+3,zc⟩=zb (za .i64 nd.max)/\w'.cell? ⟨b,o+k*5+4,zc⟩=zb (za .i64 nd.group)/\w'.cell? ⟨b2,o2+k*5,zc⟩=zb (za .i64 nd.kind)/\w'.cell? ⟨b2,o2+k*5+1,zc⟩=zb CT/\w'.cell? ⟨b2,o2+k*5+2,zc⟩=zb (za .i64 nd.min)/\w'.cell? ⟨b2,o2+k*5+3,zc⟩=zb (za .i64 nd.max)/\w'.cell? ⟨b2,o2+k*5+4,zc⟩=zb (za .i64 nd.group)) ((first|go_keep|exact⟨(hcc _ _ aB).trans c0,(hcc _ _ aB).trans c1,(hcc _ _ aB).trans c2,(hcc _ _ aB).trans c3,(hcc _ _ aB).trans c4,(hcc _ _ jr).trans d0,(hcc _ _ jr).trans d1,(hcc _ _ jr).trans d2,(hcc _ _ jr).trans d3,(hcc _ _ jr).trans d4⟩)) ((go_at_call 173;refine(zoM _ _ _ _ _ _ _ _ qA nY).mono ?_;rintro e w2 ⟨rfl,af⟩;obtain⟨hcc,_⟩:=vi af))
   go_wp2
   go_roundw
   case rel=>exact⟨k+1,by omega,by go_num,aj hb.drew hb.size af⟩
   case measure=>simp[intOf];omega
  ·go_wp2;go_ret;exact⟨rfl,hb⟩
theorem zk4(aV bm:Bool)(v v2:zh)(ns:List aM)(w:zd)(hs:dU l1 w v ns)(cZ:dU l2 w v2 ns):
  ze prog 132 #[zg #[.bool aV,.bool bm,v],zg #[.bool aV,.bool bm,v2]] w λe w'=>e=.returned (.bool true)/\zf w.heap.size w w':=by
 go_enter func132,ntmps132
 go_wp2_with fail
 refine(zna (l1:=l1) (l2:=l2) _ _ ns _ (hs.below ?_) (cZ.below ?_)).mono ?_
 ·exact(au).alloc (by simp) _
 ·exact(au).alloc (by simp) _
 rintro e w2 ⟨rfl,hb⟩;have cX:=((((Below.refl w.heap.size w).alloc (ai _) _).alloc (by simp) _).trans (hb.mono (by simp;omega)));clear hb;go_wp2;go_ret;exact⟨rfl,cX⟩
theorem zjC(v v2:zh)(rs:List aW)(w:zd)(hs:eh l1 w v rs)(cZ:eh l2 w v2 rs):
  ze prog 106 #[v,v2] w λe w'=>e=.returned (.bool true)/\zf w.heap.size w w':=by
 obtain⟨ao,cap,rfl,hm,hc⟩:=hs;obtain⟨iG,fe,rfl,_,dx⟩:=cZ
 go_enter func106,ntmps106
 go_wp2
 go_loopw [5] (λi wr=>∃k:Nat,k<=rs.length/\i=za .i64 k/\zf w.heap.size w wr)
  (λi _=>rs.length-(intOf i).toNat)
 case atStart=>exact⟨0,aZ _,rfl,Below.refl _ _⟩
 case round=>
  obtain⟨k,hk,rfl,hb⟩:=hrel
  by_cases hlt:k<rs.length
  ·obtain⟨b,o,nv,nd,rfl,Hn,bu,c0,c1,c2,di⟩:=hc.elem hb hlt;obtain⟨b2,o2,pi,Lf,rfl,fQ,j8,d0,d1,d2,GZ⟩:=dx.elem hb hlt;have uA:nd=Lf:=Hn.out.symm.trans fQ.out;subst uA;have aB:b<wr.heap.size:=bA bu hb.size;have jr:b2<wr.heap.size:=bA j8 hb.size;have dO:(0:Int)<=(k:Int):=by omega
   have dh:(k:Int)<(rs.length:Int):=by omega
   have qA:dU l1 wr.drew nv nd.nodes:=di;have nY:dU l2 wr.drew pi nd.nodes:=GZ;go_wp2
   go_region_held3 (λw'=>w'.cell? ⟨b,o+k*3,zc⟩=zb (.bool nd.aV)/\w'.cell? ⟨b,o+k*3+1,zc⟩=zb (.bool nd.bm)/\w'.cell? ⟨b,o+k*3+2,zc⟩=zb nv/\w'.cell? ⟨b2,o2+k*3,zc⟩=zb (.bool nd.aV)/\w'.cell? ⟨b2,o2+k*3+1,zc⟩=zb (.bool nd.bm)/\w'.cell? ⟨b2,o2+k*3+2,zc⟩=zb pi) ((first|go_keep|exact⟨(hcc _ _ aB).trans c0,(hcc _ _ aB).trans c1,(hcc _ _ aB).trans c2,(hcc _ _ jr).trans d0,(hcc _ _ jr).trans d1,(hcc _ _ jr).trans d2⟩)) ((go_at_call 132;refine(zk4 _ _ _ _ _ _ qA nY).mono ?_;rintro e w2 ⟨rfl,af⟩;obtain⟨hcc,_⟩:=vi af))
   go_wp2
   go_roundw
   case rel=>exact⟨k+1,by omega,by go_num,aj hb.drew hb.size af⟩
   case measure=>simp[intOf];omega
  ·go_wp2;go_ret;exact⟨rfl,hb⟩
theorem zoO(g:Int)(v v2:zh)(bs:List aW)(w:zd)(hs:eh l1 w v bs)(cZ:eh l2 w v2 bs):
  ze prog 78 #[zg #[v,za .i64 g],zg #[v2,za .i64 g]] w λe w'=>e=.returned (.bool true)/\zf w.heap.size w w':=by
 go_enter func78,ntmps78
 go_wp2_with fail
 refine(zjC (l1:=l1) (l2:=l2) _ _ bs _ (hs.below ?_) (cZ.below ?_)).mono ?_
 ·exact(au).alloc (by simp) _
 ·exact(au).alloc (by simp) _
 rintro e w2 ⟨rfl,hb⟩;obtain⟨hcc,Ec⟩:=vi hb;have cX:=((((Below.refl w.heap.size w).alloc (ai _) _).alloc (by simp) _).trans (hb.mono (by simp;omega)));clear hb;go_wp2;go_ret;exact⟨rfl,cX⟩
end
def cz(c lo hi:Int):Bool:=decide (lo<=c/\c<=hi)
theorem tO(c lo hi:Int)(w:zd):ze prog 47 #[za .i64 c,za .i64 lo,za .i64 hi] w λe w'=>e=.returned (.bool (cz c lo hi))/\w'=w:=by
 by_cases h1:lo<=c
 ·by_cases h2:c<=hi
  all_goals
   go_enter func47,ntmps47
   go_wp2;go_ret;exact⟨bF (by simp[cz];omega),rfl⟩
 ·go_enter func47,ntmps47
  go_wp2;go_ret;exact⟨bF (by simp[cz];omega),rfl⟩
def bi(k:Int):Nat:=if k=2\/k=3 then 2 else if k=4\/k=5 then 1 else 0
def dV(mn mx:Int):Int:=if mx=-1 then mn+1 else if mx<1 then 1 else mx
def cJ(n:Int):Int:=if n<=2001 then n else 2001
def eK(mn mx:Int):Bool:=decide (0<=mn/\mn<=255)&&decide (mx=-1\/(mn<=mx/\mx<=255))
def gK(mn mx:Int):Bool:=decide (mn=0/\(mx=1\/mx=-1))
theorem zl0(k:Int):bi k<=2:=by unfold bi;split<;>(try split)<;>omega
theorem Pk(k:Int)(w:zd):ze prog 116 #[za .i64 k] w λe w'=>e=.returned (za .i64 (bi k))/\w'=w:=by
 by_cases h2:k=2
 ·subst h2;go_enter func116,ntmps116;go_wp2;go_ret;exact⟨rfl,rfl⟩
 by_cases h3:k=3
 ·subst h3;go_enter func116,ntmps116;go_wp2;go_ret;exact⟨rfl,rfl⟩
 by_cases h4:k=4
 ·subst h4;go_enter func116,ntmps116;go_wp2;go_ret;exact⟨rfl,rfl⟩
 by_cases h5:k=5
 ·subst h5;go_enter func116,ntmps116;go_wp2;go_ret;exact⟨rfl,rfl⟩
 have e2:(k==2)=false:=eu.2 h2;have e3:(k==3)=false:=eu.2 h3;have e4:(k==4)=false:=eu.2 h4;have e5:(k==5)=false:=eu.2 h5;have ha:Hid (bi k=0):=by show _=_;simp[bi,h2,h3,h4,h5]
 clear h2 h3 h4 h5
 go_enter func116,ntmps116
 go_wp2;go_ret;exact⟨eX (by rw[ha.out];rfl),rfl⟩
theorem C5(k:Int)(w:zd):ze prog 155 #[za .i64 k] w λe w'=>e=.returned (za .i64 (bi k))/\w'=w:=by
 by_cases h2:k=2
 ·subst h2;go_enter func155,ntmps155;go_wp2;go_ret;exact⟨rfl,rfl⟩
 by_cases h3:k=3
 ·subst h3;go_enter func155,ntmps155;go_wp2;go_ret;exact⟨rfl,rfl⟩
 by_cases h4:k=4
 ·subst h4;go_enter func155,ntmps155;go_wp2;go_ret;exact⟨rfl,rfl⟩
 by_cases h5:k=5
 ·subst h5;go_enter func155,ntmps155;go_wp2;go_ret;exact⟨rfl,rfl⟩
 have e2:(k==2)=false:=eu.2 h2;have e3:(k==3)=false:=eu.2 h3;have e4:(k==4)=false:=eu.2 h4;have e5:(k==5)=false:=eu.2 h5;have ha:Hid (bi k=0):=by show _=_;simp[bi,h2,h3,h4,h5]
 clear h2 h3 h4 h5
 go_enter func155,ntmps155
 go_wp2;go_ret;exact⟨eX (by rw[ha.out];rfl),rfl⟩
theorem zou(k mn mx g:Int)(sv:zh)(w:zd)(h0:0<=mn)(h1:mn<=255):
  ze prog 135 #[zg #[za .i64 k,sv,za .i64 mn,za .i64 mx,za .i64 g]] w λe w'=>e=.returned (za .i64 (dV mn mx))/\zf w.heap.size w w':=by
 rcases(show mx=-1\/(mx≠-1/\mx<1)\/(mx≠-1/\1<=mx) by omega) with rfl|⟨ha,hb⟩|⟨ha,hb⟩
 all_goals
  go_enter func135,ntmps135
  go_wp2;go_ret;refine⟨eX ?_,au⟩;simp[dV]<;>omega
theorem HU(n:Int)(w:zd):ze prog 121 #[za .i64 n] w λe w'=>e=.returned (za .i64 (cJ n))/\w'=w:=by
 by_cases h:n<=2001
 all_goals
  go_enter func121,ntmps121
  go_wp2;go_ret;refine⟨eX ?_,rfl⟩;simp[cJ]<;>omega
theorem zkS(mn mx:Int)(w:zd):ze prog 177 #[za .i64 mn,za .i64 mx] w λe w'=>e=.returned (.bool (eK mn mx))/\w'=w:=by
 by_cases h0:mn<0
 ·go_enter func177,ntmps177;go_wp2;go_ret;exact⟨bF (by simp[eK];omega),rfl⟩
 by_cases h1:255<mn
 ·go_enter func177,ntmps177;go_wp2;go_ret;exact⟨bF (by simp[eK];omega),rfl⟩
 by_cases h2:mx=-1
 ·subst h2;go_enter func177,ntmps177;go_wp2;go_ret;exact⟨bF (by simp[eK];omega),rfl⟩
 have e2:(mx == -1)=false:=eu.2 h2;have H2:Hid (mx≠-1):=h2;clear h2
 by_cases h3:mn<=mx
 ·by_cases h4:mx<=255
  ·go_enter func177,ntmps177;go_wp2;go_ret;exact⟨bF (by have:=H2.out;simp[eK];omega),rfl⟩
  ·go_enter func177,ntmps177;go_wp2;go_ret;exact⟨bF (by have:=H2.out;simp[eK];omega),rfl⟩
 ·go_enter func177,ntmps177;go_wp2;go_ret;exact⟨bF (by have:=H2.out;simp[eK];omega),rfl⟩
theorem LP(v:zh)(mn mx:Int)(w:zd):ze prog 198 #[zg #[v,za .i64 mn,za .i64 mx]] w λe w'=>e=.returned (.bool (gK mn mx))/\zf w.heap.size w w':=by
 by_cases h0:mn=0
 ·subst h0
  by_cases h1:mx=1
  ·subst h1;go_enter func198,ntmps198;go_wp2;go_ret;exact⟨rfl,au⟩
  by_cases h2:mx=-1
  ·subst h2;go_enter func198,ntmps198;go_wp2;go_ret;exact⟨rfl,au⟩
  have e1:(mx==1)=false:=eu.2 h1;have e2:(mx == -1)=false:=eu.2 h2;have H:Hid (gK 0 mx=false):=by show _=_;simp[gK,h1,h2]
  clear h1 h2
  go_enter func198,ntmps198;go_wp2;go_ret;exact⟨bF H.out.symm,au⟩
 ·have e0:(mn==0)=false:=eu.2 h0;have H:Hid (gK mn mx=false):=by show _=_;simp[gK,h0]
  clear h0
  go_enter func198,ntmps198;go_wp2;go_ret;exact⟨bF H.out.symm,au⟩
end Go.Proofs.YtdimhpfiieepiaaGreatDoor
