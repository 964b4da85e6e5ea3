import Derived.Test.YtdimhpfiieepiaaGreatDoorC0
import Derived.Deep.RegionHeld3
import Derived.Deep.DrawnRows
import Derived.Deep.AppendLies
namespace Go.Proofs.YtdimhpfiieepiaaGreatDoor
set_option maxHeartbeats 400000
set_option maxRecDepth 100000
open Go.RowKit
section
variable{l1 l2:Nat}
attribute [local go_sem ↓] Go.wp_at_zero Go.wp_at_succ
theorem znH(lo hi:Int)(w:World):
  Calls Tryz.prog 203 #[.agg #[.int .i64 lo,.int .i64 hi],.agg #[.int .i64 lo,.int .i64 hi]] w fun e w'=>e=.returned (.bool true)/\Below w.heap.size w w':=by
 go_enter Tryz.func203,Tryz.ntmps203
 go_wp2;go_ret;exact⟨rfl,((Below.refl _ _).alloc (zvJ _) _).alloc (by simp) _⟩
theorem zln(v v2:Value)(rs:List (Int×Int))(w:World)(hs:zal l1 w v rs)(hs2:zal l2 w v2 rs):
  Calls Tryz.prog 196 #[v,v2] w fun e w'=>e=.returned (.bool true)/\Below w.heap.size w w':=by
 obtain⟨ao,cap,rfl,hm,hc⟩:=hs;obtain⟨ao2,cap2,rfl,_,hc2⟩:=hs2
 go_enter Tryz.func196,Tryz.ntmps196
 go_wp2
 go_loopw [5] (fun i wr=>∃k:Nat,k<=rs.length/\i=.int .i64 k/\Below w.heap.size w wr)
  (fun i _=>rs.length-(intOf i).toNat)
 case atStart=>exact⟨0,zvT _,rfl,Below.refl _ _⟩
 case round=>
  obtain⟨k,hk,rfl,hb⟩:=hrel
  by_cases hlt:k<rs.length
  ·obtain⟨b,o,lo,hi,rfl,Hn,hbl,c0,c1⟩:=hc.elem hb hlt;obtain⟨b2,o2,lo2,hi2,rfl,Hn2,hbl2,d0,d1⟩:=hc2.elem hb hlt;have hee:=Hn.out.symm.trans Hn2.out;simp only[Prod.mk.injEq] at hee;obtain⟨rfl,rfl⟩:=hee;have hbr:b<wr.heap.size:=zvL hbl hb.size;have hbr2:b2<wr.heap.size:=zvL hbl2 hb.size;have hi0:(0:Int)<=(k:Int):=by omega
   have hi1:(k:Int)<(rs.length:Int):=by omega
   go_wp2
   go_region_held3 (fun w'=>w'.cell? ⟨b,o+k*2,none⟩=some (.int .i64 lo)/\w'.cell? ⟨b,o+k*2+1,none⟩=some (.int .i64 hi)/\w'.cell? ⟨b2,o2+k*2,none⟩=some (.int .i64 lo)/\w'.cell? ⟨b2,o2+k*2+1,none⟩=some (.int .i64 hi)) ((first|go_keep|exact⟨(hcc _ _ hbr).trans c0,(hcc _ _ hbr).trans c1,(hcc _ _ hbr2).trans d0,(hcc _ _ hbr2).trans d1⟩)) ((go_at_call 203;refine(znH _ _ _).mono ?_;rintro e w2 ⟨rfl,hb2⟩;obtain⟨hcc,_⟩:=zfA hb2))
   go_wp2
   go_roundw
   case rel=>exact⟨k+1,by omega,by go_num,zaa hb.drew hb.size hb2⟩
   case measure=>simp[intOf];omega
  ·go_wp2;go_ret;exact⟨rfl,hb⟩
theorem zpi(k mn mx g:Int)(v v2:Value)(rs:List (Int×Int))(w:World)(hs:zal l1 w v rs)(hs2:zal l2 w v2 rs):
  Calls Tryz.prog 173 #[.agg #[.int .i64 k,v,.int .i64 mn,.int .i64 mx,.int .i64 g],.agg #[.int .i64 k,v2,.int .i64 mn,.int .i64 mx,.int .i64 g]] w fun e w'=>e=.returned (.bool true)/\Below w.heap.size w w':=by
 go_enter Tryz.func173,Tryz.ntmps173
 go_wp2_with fail
 refine(zln (l1:=l1) (l2:=l2) _ _ rs _ (hs.below ?_) (hs2.below ?_)).mono ?_
 ·exact((Below.refl _ _).alloc (zvJ _) _).alloc (by simp) _
 ·exact((Below.refl _ _).alloc (zvJ _) _).alloc (by simp) _
 rintro e w2 ⟨rfl,hb⟩;obtain⟨hcc,hff⟩:=zfA hb;have hbb:=((((Below.refl w.heap.size w).alloc (zvJ _) _).alloc (by simp) _).trans (hb.mono (by simp;omega)));clear hb;go_wp2;go_ret;exact⟨rfl,hbb⟩
theorem znF(v v2:Value)(rs:List zaq)(w:World)(hs:zaI l1 w v rs)(hs2:zaI l2 w v2 rs):
  Calls Tryz.prog 152 #[v,v2] w fun e w'=>e=.returned (.bool true)/\Below w.heap.size w w':=by
 obtain⟨ao,cap,rfl,hm,hc⟩:=hs;obtain⟨ao2,cap2,rfl,_,hc2⟩:=hs2
 go_enter Tryz.func152,Tryz.ntmps152
 go_wp2
 go_loopw [5] (fun i wr=>∃k:Nat,k<=rs.length/\i=.int .i64 k/\Below w.heap.size w wr)
  (fun i _=>rs.length-(intOf i).toNat)
 case atStart=>exact⟨0,zvT _,rfl,Below.refl _ _⟩
 case round=>
  obtain⟨k,hk,rfl,hb⟩:=hrel
  by_cases hlt:k<rs.length
  ·obtain⟨b,o,sv,nd,rfl,Hn,hbl,c0,c1,c2,c3,c4,hsv⟩:=hc.elem hb hlt;obtain⟨b2,o2,sv2,nd2,rfl,Hn2,hbl2,d0,d1,d2,d3,d4,hsv2⟩:=hc2.elem hb hlt;have hee:nd=nd2:=Hn.out.symm.trans Hn2.out;subst hee;have hbr:b<wr.heap.size:=zvL hbl hb.size;have hbr2:b2<wr.heap.size:=zvL hbl2 hb.size;have hi0:(0:Int)<=(k:Int):=by omega
   have hi1:(k:Int)<(rs.length:Int):=by omega
   have hq1:zal l1 wr.drew sv nd.set:=hsv;have hq2:zal l2 wr.drew sv2 nd.set:=hsv2;go_wp2
   go_region_held3 (fun w'=>w'.cell? ⟨b,o+k*5,none⟩=some (.int .i64 nd.kind)/\w'.cell? ⟨b,o+k*5+1,none⟩=some sv/\w'.cell? ⟨b,o+k*5+2,none⟩=some (.int .i64 nd.min)/\w'.cell? ⟨b,o+k*5+3,none⟩=some (.int .i64 nd.max)/\w'.cell? ⟨b,o+k*5+4,none⟩=some (.int .i64 nd.group)/\w'.cell? ⟨b2,o2+k*5,none⟩=some (.int .i64 nd.kind)/\w'.cell? ⟨b2,o2+k*5+1,none⟩=some sv2/\w'.cell? ⟨b2,o2+k*5+2,none⟩=some (.int .i64 nd.min)/\w'.cell? ⟨b2,o2+k*5+3,none⟩=some (.int .i64 nd.max)/\w'.cell? ⟨b2,o2+k*5+4,none⟩=some (.int .i64 nd.group)) ((first|go_keep|exact⟨(hcc _ _ hbr).trans c0,(hcc _ _ hbr).trans c1,(hcc _ _ hbr).trans c2,(hcc _ _ hbr).trans c3,(hcc _ _ hbr).trans c4,(hcc _ _ hbr2).trans d0,(hcc _ _ hbr2).trans d1,(hcc _ _ hbr2).trans d2,(hcc _ _ hbr2).trans d3,(hcc _ _ hbr2).trans d4⟩)) ((go_at_call 173;refine(zpi _ _ _ _ _ _ _ _ hq1 hq2).mono ?_;rintro e w2 ⟨rfl,hb2⟩;obtain⟨hcc,_⟩:=zfA hb2))
   go_wp2
   go_roundw
   case rel=>exact⟨k+1,by omega,by go_num,zaa hb.drew hb.size hb2⟩
   case measure=>simp[intOf];omega
  ·go_wp2;go_ret;exact⟨rfl,hb⟩
theorem zlm(bol eol:Bool)(v v2:Value)(ns:List zaq)(w:World)(hs:zaI l1 w v ns)(hs2:zaI l2 w v2 ns):
  Calls Tryz.prog 132 #[.agg #[.bool bol,.bool eol,v],.agg #[.bool bol,.bool eol,v2]] w fun e w'=>e=.returned (.bool true)/\Below w.heap.size w w':=by
 go_enter Tryz.func132,Tryz.ntmps132
 go_wp2_with fail
 refine(znF (l1:=l1) (l2:=l2) _ _ ns _ (hs.below ?_) (hs2.below ?_)).mono ?_
 ·exact((Below.refl _ _).alloc (zvJ _) _).alloc (by simp) _
 ·exact((Below.refl _ _).alloc (zvJ _) _).alloc (by simp) _
 rintro e w2 ⟨rfl,hb⟩;have hbb:=((((Below.refl w.heap.size w).alloc (zvJ _) _).alloc (by simp) _).trans (hb.mono (by simp;omega)));clear hb;go_wp2;go_ret;exact⟨rfl,hbb⟩
theorem zjV(v v2:Value)(rs:List zah)(w:World)(hs:zao l1 w v rs)(hs2:zao l2 w v2 rs):
  Calls Tryz.prog 106 #[v,v2] w fun e w'=>e=.returned (.bool true)/\Below w.heap.size w w':=by
 obtain⟨ao,cap,rfl,hm,hc⟩:=hs;obtain⟨ao2,cap2,rfl,_,hc2⟩:=hs2
 go_enter Tryz.func106,Tryz.ntmps106
 go_wp2
 go_loopw [5] (fun i wr=>∃k:Nat,k<=rs.length/\i=.int .i64 k/\Below w.heap.size w wr)
  (fun i _=>rs.length-(intOf i).toNat)
 case atStart=>exact⟨0,zvT _,rfl,Below.refl _ _⟩
 case round=>
  obtain⟨k,hk,rfl,hb⟩:=hrel
  by_cases hlt:k<rs.length
  ·obtain⟨b,o,nv,nd,rfl,Hn,hbl,c0,c1,c2,hsv⟩:=hc.elem hb hlt;obtain⟨b2,o2,nv2,nd2,rfl,Hn2,hbl2,d0,d1,d2,hsv2⟩:=hc2.elem hb hlt;have hee:nd=nd2:=Hn.out.symm.trans Hn2.out;subst hee;have hbr:b<wr.heap.size:=zvL hbl hb.size;have hbr2:b2<wr.heap.size:=zvL hbl2 hb.size;have hi0:(0:Int)<=(k:Int):=by omega
   have hi1:(k:Int)<(rs.length:Int):=by omega
   have hq1:zaI l1 wr.drew nv nd.nodes:=hsv;have hq2:zaI l2 wr.drew nv2 nd.nodes:=hsv2;go_wp2
   go_region_held3 (fun w'=>w'.cell? ⟨b,o+k*3,none⟩=some (.bool nd.bol)/\w'.cell? ⟨b,o+k*3+1,none⟩=some (.bool nd.eol)/\w'.cell? ⟨b,o+k*3+2,none⟩=some nv/\w'.cell? ⟨b2,o2+k*3,none⟩=some (.bool nd.bol)/\w'.cell? ⟨b2,o2+k*3+1,none⟩=some (.bool nd.eol)/\w'.cell? ⟨b2,o2+k*3+2,none⟩=some nv2) ((first|go_keep|exact⟨(hcc _ _ hbr).trans c0,(hcc _ _ hbr).trans c1,(hcc _ _ hbr).trans c2,(hcc _ _ hbr2).trans d0,(hcc _ _ hbr2).trans d1,(hcc _ _ hbr2).trans d2⟩)) ((go_at_call 132;refine(zlm _ _ _ _ _ _ hq1 hq2).mono ?_;rintro e w2 ⟨rfl,hb2⟩;obtain⟨hcc,_⟩:=zfA hb2))
   go_wp2
   go_roundw
   case rel=>exact⟨k+1,by omega,by go_num,zaa hb.drew hb.size hb2⟩
   case measure=>simp[intOf];omega
  ·go_wp2;go_ret;exact⟨rfl,hb⟩
theorem zpk(g:Int)(v v2:Value)(bs:List zah)(w:World)(hs:zao l1 w v bs)(hs2:zao l2 w v2 bs):
  Calls Tryz.prog 78 #[.agg #[v,.int .i64 g],.agg #[v2,.int .i64 g]] w fun e w'=>e=.returned (.bool true)/\Below w.heap.size w w':=by
 go_enter Tryz.func78,Tryz.ntmps78
 go_wp2_with fail
 refine(zjV (l1:=l1) (l2:=l2) _ _ bs _ (hs.below ?_) (hs2.below ?_)).mono ?_
 ·exact((Below.refl _ _).alloc (zvJ _) _).alloc (by simp) _
 ·exact((Below.refl _ _).alloc (zvJ _) _).alloc (by simp) _
 rintro e w2 ⟨rfl,hb⟩;obtain⟨hcc,hff⟩:=zfA hb;have hbb:=((((Below.refl w.heap.size w).alloc (zvJ _) _).alloc (by simp) _).trans (hb.mono (by simp;omega)));clear hb;go_wp2;go_ret;exact⟨rfl,hbb⟩
end
def btw(c lo hi:Int):Bool:=decide (lo<=c/\c<=hi)
theorem zap(c lo hi:Int)(w:World):Calls Tryz.prog 47 #[.int .i64 c,.int .i64 lo,.int .i64 hi] w fun e w'=>e=.returned (.bool (btw c lo hi))/\w'=w:=by
 by_cases h1:lo<=c
 ·by_cases h2:c<=hi
  all_goals
   go_enter Tryz.func47,Tryz.ntmps47
   go_wp2;go_ret;exact⟨zae (by simp[btw];omega),rfl⟩
 ·go_enter Tryz.func47,Tryz.ntmps47
  go_wp2;go_ret;exact⟨zae (by simp[btw];omega),rfl⟩
def zaE(k:Int):Nat:=if k=2\/k=3 then 2 else if k=4\/k=5 then 1 else 0
def zaV(mn mx:Int):Int:=if mx=-1 then mn+1 else if mx<1 then 1 else mx
def capW(n:Int):Int:=if n<=2001 then n else 2001
def zaM(mn mx:Int):Bool:=decide (0<=mn/\mn<=255)&&decide (mx=-1\/(mn<=mx/\mx<=255))
def zbS(mn mx:Int):Bool:=decide (mn=0/\(mx=1\/mx=-1))
theorem zmv(k:Int):zaE k<=2:=by unfold zaE;split<;>(try split)<;>omega
theorem zgl(k:Int)(w:World):Calls Tryz.prog 116 #[.int .i64 k] w fun e w'=>e=.returned (.int .i64 (zaE k))/\w'=w:=by
 by_cases h2:k=2
 ·subst h2;go_enter Tryz.func116,Tryz.ntmps116;go_wp2;go_ret;exact⟨rfl,rfl⟩
 by_cases h3:k=3
 ·subst h3;go_enter Tryz.func116,Tryz.ntmps116;go_wp2;go_ret;exact⟨rfl,rfl⟩
 by_cases h4:k=4
 ·subst h4;go_enter Tryz.func116,Tryz.ntmps116;go_wp2;go_ret;exact⟨rfl,rfl⟩
 by_cases h5:k=5
 ·subst h5;go_enter Tryz.func116,Tryz.ntmps116;go_wp2;go_ret;exact⟨rfl,rfl⟩
 have e2:(k==2)=false:=zvU.2 h2;have e3:(k==3)=false:=zvU.2 h3;have e4:(k==4)=false:=zvU.2 h4;have e5:(k==5)=false:=zvU.2 h5;have ha:Hid (zaE k=0):=by show _=_;simp[zaE,h2,h3,h4,h5]
 clear h2 h3 h4 h5
 go_enter Tryz.func116,Tryz.ntmps116
 go_wp2;go_ret;exact⟨zaR (by rw[ha.out];rfl),rfl⟩
theorem zbM(k:Int)(w:World):Calls Tryz.prog 155 #[.int .i64 k] w fun e w'=>e=.returned (.int .i64 (zaE k))/\w'=w:=by
 by_cases h2:k=2
 ·subst h2;go_enter Tryz.func155,Tryz.ntmps155;go_wp2;go_ret;exact⟨rfl,rfl⟩
 by_cases h3:k=3
 ·subst h3;go_enter Tryz.func155,Tryz.ntmps155;go_wp2;go_ret;exact⟨rfl,rfl⟩
 by_cases h4:k=4
 ·subst h4;go_enter Tryz.func155,Tryz.ntmps155;go_wp2;go_ret;exact⟨rfl,rfl⟩
 by_cases h5:k=5
 ·subst h5;go_enter Tryz.func155,Tryz.ntmps155;go_wp2;go_ret;exact⟨rfl,rfl⟩
 have e2:(k==2)=false:=zvU.2 h2;have e3:(k==3)=false:=zvU.2 h3;have e4:(k==4)=false:=zvU.2 h4;have e5:(k==5)=false:=zvU.2 h5;have ha:Hid (zaE k=0):=by show _=_;simp[zaE,h2,h3,h4,h5]
 clear h2 h3 h4 h5
 go_enter Tryz.func155,Tryz.ntmps155
 go_wp2;go_ret;exact⟨zaR (by rw[ha.out];rfl),rfl⟩
theorem zo0(k mn mx g:Int)(sv:Value)(w:World)(h0:0<=mn)(h1:mn<=255):
  Calls Tryz.prog 135 #[.agg #[.int .i64 k,sv,.int .i64 mn,.int .i64 mx,.int .i64 g]] w fun e w'=>e=.returned (.int .i64 (zaV mn mx))/\Below w.heap.size w w':=by
 rcases(show mx=-1\/(mx≠-1/\mx<1)\/(mx≠-1/\1<=mx) by omega) with rfl|⟨ha,hb⟩|⟨ha,hb⟩
 all_goals
  go_enter Tryz.func135,Tryz.ntmps135
  go_wp2;go_ret;refine⟨zaR ?_,(Below.refl _ _).alloc (zvJ _) _⟩;simp[zaV]<;>omega
theorem zb5(n:Int)(w:World):Calls Tryz.prog 121 #[.int .i64 n] w fun e w'=>e=.returned (.int .i64 (capW n))/\w'=w:=by
 by_cases h:n<=2001
 all_goals
  go_enter Tryz.func121,Tryz.ntmps121
  go_wp2;go_ret;refine⟨zaR ?_,rfl⟩;simp[capW]<;>omega
theorem zla(mn mx:Int)(w:World):Calls Tryz.prog 177 #[.int .i64 mn,.int .i64 mx] w fun e w'=>e=.returned (.bool (zaM mn mx))/\w'=w:=by
 by_cases h0:mn<0
 ·go_enter Tryz.func177,Tryz.ntmps177;go_wp2;go_ret;exact⟨zae (by simp[zaM];omega),rfl⟩
 by_cases h1:255<mn
 ·go_enter Tryz.func177,Tryz.ntmps177;go_wp2;go_ret;exact⟨zae (by simp[zaM];omega),rfl⟩
 by_cases h2:mx=-1
 ·subst h2;go_enter Tryz.func177,Tryz.ntmps177;go_wp2;go_ret;exact⟨zae (by simp[zaM];omega),rfl⟩
 have e2:(mx == -1)=false:=zvU.2 h2;have H2:Hid (mx≠-1):=h2;clear h2
 by_cases h3:mn<=mx
 ·by_cases h4:mx<=255
  ·go_enter Tryz.func177,Tryz.ntmps177;go_wp2;go_ret;exact⟨zae (by have:=H2.out;simp[zaM];omega),rfl⟩
  ·go_enter Tryz.func177,Tryz.ntmps177;go_wp2;go_ret;exact⟨zae (by have:=H2.out;simp[zaM];omega),rfl⟩
 ·go_enter Tryz.func177,Tryz.ntmps177;go_wp2;go_ret;exact⟨zae (by have:=H2.out;simp[zaM];omega),rfl⟩
theorem zdv(v:Value)(mn mx:Int)(w:World):Calls Tryz.prog 198 #[.agg #[v,.int .i64 mn,.int .i64 mx]] w fun e w'=>e=.returned (.bool (zbS mn mx))/\Below w.heap.size w w':=by
 by_cases h0:mn=0
 ·subst h0
  by_cases h1:mx=1
  ·subst h1;go_enter Tryz.func198,Tryz.ntmps198;go_wp2;go_ret;exact⟨rfl,(Below.refl _ _).alloc (zvJ _) _⟩
  by_cases h2:mx=-1
  ·subst h2;go_enter Tryz.func198,Tryz.ntmps198;go_wp2;go_ret;exact⟨rfl,(Below.refl _ _).alloc (zvJ _) _⟩
  have e1:(mx==1)=false:=zvU.2 h1;have e2:(mx == -1)=false:=zvU.2 h2;have H:Hid (zbS 0 mx=false):=by show _=_;simp[zbS,h1,h2]
  clear h1 h2
  go_enter Tryz.func198,Tryz.ntmps198;go_wp2;go_ret;exact⟨zae H.out.symm,(Below.refl _ _).alloc (zvJ _) _⟩
 ·have e0:(mn==0)=false:=zvU.2 h0;have H:Hid (zbS mn mx=false):=by show _=_;simp[zbS,h0]
  clear h0
  go_enter Tryz.func198,Tryz.ntmps198;go_wp2;go_ret;exact⟨zae H.out.symm,(Below.refl _ _).alloc (zvJ _) _⟩
end Go.Proofs.YtdimhpfiieepiaaGreatDoor
