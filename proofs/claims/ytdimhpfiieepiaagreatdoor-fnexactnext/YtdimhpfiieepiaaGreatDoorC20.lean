import Derived.Test.YtdimhpfiieepiaaGreatDoorC13
namespace Go.Proofs.YtdimhpfiieepiaaGreatDoor
set_option maxHeartbeats 1000000
set_option maxRecDepth 100000
open Go.RowKit
section
variable{p:Prop}
attribute [local go_sem ↓] Go.wp_at_zero Go.wp_at_succ
theorem decT [Decidable p] (h:p):decide p=true:=decide_eq_true h
theorem decF [Decidable p] (h:¬p):decide p=false:=decide_eq_false h
theorem zt1(g:Nat)(L:Int)(B:ByteArray)(C:Bool)(S N:Int)(w:World)(hg:w.heap[g]?=some (.cells #[.int .i64 L,.string B,.bool C,.int .i64 S,.int .i64 N] 32 (0,0)))(h1:L<1):
  Calls Tryz.prog 37 #[.pointer (some ⟨g,0,none⟩)] w fun e w'=>e=.returned (.bool false)/\Below w.heap.size w w':=by
 obtain⟨c0,c1,c2,c3,c4⟩:=zax hg;clear hg;have d1:decide (L<1)=true:=decT h1
 go_enter Tryz.func37,Tryz.ntmps37
 go_wp2
 go_quiet (fail)
 go_wp2;go_ret;exact⟨rfl,below_drewN (Below.refl _ _) _⟩
theorem zt2(g:Nat)(L:Int)(B:ByteArray)(C:Bool)(S N:Int)(w:World)(hg:w.heap[g]?=some (.cells #[.int .i64 L,.string B,.bool C,.int .i64 S,.int .i64 N] 32 (0,0)))(h1:¬L<1)(h2:L > 4096):
  Calls Tryz.prog 37 #[.pointer (some ⟨g,0,none⟩)] w fun e w'=>e=.returned (.bool false)/\Below w.heap.size w w':=by
 obtain⟨c0,c1,c2,c3,c4⟩:=zax hg;clear hg;have d1:decide (L<1)=false:=decF h1;have d2:decide (L > 4096)=true:=decT h2
 go_enter Tryz.func37,Tryz.ntmps37
 go_wp2
 go_quiet (fail)
 go_wp2;go_ret;exact⟨rfl,below_drewN (Below.refl _ _) _⟩
theorem zt3(g:Nat)(L:Int)(B:ByteArray)(C:Bool)(S N:Int)(w:World)(hg:w.heap[g]?=some (.cells #[.int .i64 L,.string B,.bool C,.int .i64 S,.int .i64 N] 32 (0,0)))(h1:¬L<1)(h2:¬L > 4096)(h3:(B.size:Int) > L):
  Calls Tryz.prog 37 #[.pointer (some ⟨g,0,none⟩)] w fun e w'=>e=.returned (.bool false)/\Below w.heap.size w w':=by
 obtain⟨c0,c1,c2,c3,c4⟩:=zax hg;clear hg;have d1:decide (L<1)=false:=decF h1;have d2:decide (L > 4096)=false:=decF h2;have d3:decide ((B.size:Int) > L)=true:=decT h3
 go_enter Tryz.func37,Tryz.ntmps37
 go_wp2
 go_quiet (fail)
 go_wp2;go_ret;exact⟨rfl,below_drewN (Below.refl _ _) _⟩
theorem zt4(g:Nat)(L:Int)(B:ByteArray)(C:Bool)(S N:Int)(w:World)(hg:w.heap[g]?=some (.cells #[.int .i64 L,.string B,.bool C,.int .i64 S,.int .i64 N] 32 (0,0)))(h1:¬L<1)(h2:¬L > 4096)(h3:¬(B.size:Int) > L)(h4:¬N>=0):
  Calls Tryz.prog 37 #[.pointer (some ⟨g,0,none⟩)] w fun e w'=>e=.returned (.bool false)/\Below w.heap.size w w':=by
 obtain⟨c0,c1,c2,c3,c4⟩:=zax hg;clear hg;have d1:decide (L<1)=false:=decF h1;have d2:decide (L > 4096)=false:=decF h2;have d3:decide ((B.size:Int) > L)=false:=decF h3;have d4:decide (N>=0)=false:=decF h4
 go_enter Tryz.func37,Tryz.ntmps37
 go_wp2
 go_quiet (fail)
 go_wp2
 go_quiet (fail)
 go_wp2;go_ret;exact⟨rfl,below_drewN (below_drewN (Below.refl _ _) _) _⟩
theorem zt5(g:Nat)(L:Int)(B:ByteArray)(C:Bool)(S N:Int)(w:World)(hg:w.heap[g]?=some (.cells #[.int .i64 L,.string B,.bool C,.int .i64 S,.int .i64 N] 32 (0,0)))(h1:¬L<1)(h2:¬L > 4096)(h3:¬(B.size:Int) > L)(h4:N>=0)(h5:¬N<=(B.size:Int)):
  Calls Tryz.prog 37 #[.pointer (some ⟨g,0,none⟩)] w fun e w'=>e=.returned (.bool false)/\Below w.heap.size w w':=by
 obtain⟨c0,c1,c2,c3,c4⟩:=zax hg;clear hg;have d1:decide (L<1)=false:=decF h1;have d2:decide (L > 4096)=false:=decF h2;have d3:decide ((B.size:Int) > L)=false:=decF h3;have d4:decide (N>=0)=true:=decT h4;have d5:decide (N<=(B.size:Int))=false:=decF h5
 go_enter Tryz.func37,Tryz.ntmps37
 go_wp2
 go_quiet (fail)
 go_wp2
 go_quiet (fail)
 go_wp2;go_ret;exact⟨rfl,below_drewN (below_drewN (Below.refl _ _) _) _⟩
theorem zt6(g:Nat)(L:Int)(B:ByteArray)(C:Bool)(S N:Int)(w:World)(hg:w.heap[g]?=some (.cells #[.int .i64 L,.string B,.bool C,.int .i64 S,.int .i64 N] 32 (0,0)))(h1:¬L<1)(h2:¬L > 4096)(h3:¬(B.size:Int) > L)(h4:N>=0)(h5:N<=(B.size:Int))(h6:¬S>=0):
  Calls Tryz.prog 37 #[.pointer (some ⟨g,0,none⟩)] w fun e w'=>e=.returned (.bool false)/\Below w.heap.size w w':=by
 obtain⟨c0,c1,c2,c3,c4⟩:=zax hg;clear hg;have d1:decide (L<1)=false:=decF h1;have d2:decide (L > 4096)=false:=decF h2;have d3:decide ((B.size:Int) > L)=false:=decF h3;have d4:decide (N>=0)=true:=decT h4;have d5:decide (N<=(B.size:Int))=true:=decT h5;have d6:decide (S>=0)=false:=decF h6
 go_enter Tryz.func37,Tryz.ntmps37
 go_wp2
 go_quiet (fail)
 go_wp2
 go_quiet (fail)
 go_wp2;go_ret;exact⟨rfl,below_drewN (below_drewN (Below.refl _ _) _) _⟩
theorem zt7(g:Nat)(L:Int)(B:ByteArray)(C:Bool)(S N:Int)(w:World)(hg:w.heap[g]?=some (.cells #[.int .i64 L,.string B,.bool C,.int .i64 S,.int .i64 N] 32 (0,0)))(h1:¬L<1)(h2:¬L > 4096)(h3:¬(B.size:Int) > L)(h4:N>=0)(h5:N<=(B.size:Int))(h6:S>=0)(h7:¬S<4000):
  Calls Tryz.prog 37 #[.pointer (some ⟨g,0,none⟩)] w fun e w'=>e=.returned (.bool false)/\Below w.heap.size w w':=by
 obtain⟨c0,c1,c2,c3,c4⟩:=zax hg;clear hg;have d1:decide (L<1)=false:=decF h1;have d2:decide (L > 4096)=false:=decF h2;have d3:decide ((B.size:Int) > L)=false:=decF h3;have d4:decide (N>=0)=true:=decT h4;have d5:decide (N<=(B.size:Int))=true:=decT h5;have d6:decide (S>=0)=true:=decT h6;have d7:decide (S<4000)=false:=decF h7
 go_enter Tryz.func37,Tryz.ntmps37
 go_wp2
 go_quiet (fail)
 go_wp2
 go_quiet (fail)
 go_wp2;go_ret;exact⟨rfl,below_drewN (below_drewN (Below.refl _ _) _) _⟩
theorem zt8(g:Nat)(L:Int)(B:ByteArray)(C:Bool)(S N:Int)(w:World)(hg:w.heap[g]?=some (.cells #[.int .i64 L,.string B,.bool C,.int .i64 S,.int .i64 N] 32 (0,0)))(h1:¬L<1)(h2:¬L > 4096)(h3:¬(B.size:Int) > L)(h4:N>=0)(h5:N<=(B.size:Int))(h6:S>=0)(h7:S<4000):
  Calls Tryz.prog 37 #[.pointer (some ⟨g,0,none⟩)] w fun e w'=>e=.returned (.bool true)/\Below w.heap.size w w':=by
 obtain⟨c0,c1,c2,c3,c4⟩:=zax hg;clear hg;have d1:decide (L<1)=false:=decF h1;have d2:decide (L > 4096)=false:=decF h2;have d3:decide ((B.size:Int) > L)=false:=decF h3;have d4:decide (N>=0)=true:=decT h4;have d5:decide (N<=(B.size:Int))=true:=decT h5;have d6:decide (S>=0)=true:=decT h6;have d7:decide (S<4000)=true:=decT h7
 go_enter Tryz.func37,Tryz.ntmps37
 go_wp2
 go_quiet (fail)
 go_wp2
 go_quiet (fail)
 go_wp2;go_ret;exact⟨rfl,below_drewN (below_drewN (Below.refl _ _) _) _⟩
theorem ztk(g:Nat)(s:zbs)(w:World)(hg:w.heap[g]?=some (.cells #[.int .i64 s.L,.string s.B,.bool s.C,.int .i64 s.S,.int .i64 s.N] 32 (0,0))):
  Calls Tryz.prog 37 #[.pointer (some ⟨g,0,none⟩)] w fun e w'=>e=.returned (.bool (zcq s))/\Below w.heap.size w w':=by
 obtain⟨L,B,C,S,N⟩:=s;have no:∀b:Bool,(zcq ⟨L,B,C,S,N⟩=b)->∀{Q:Ending->World->Prop},(Q=fun e w'=>e=.returned (.bool b)/\Below w.heap.size w w')->Q=fun e w'=>e=.returned (.bool (zcq ⟨L,B,C,S,N⟩))/\Below w.heap.size w w':=fun b h Q hq=>by rw[h,hq]
 by_cases h1:L<1
 ·rw[<-no false (by simp[zcq,btw];omega) rfl];exact zt1 g L B C S N w hg h1
 by_cases h2:L > 4096
 ·rw[<-no false (by simp[zcq,btw];omega) rfl];exact zt2 g L B C S N w hg h1 h2
 by_cases h3:(B.size:Int) > L
 ·rw[<-no false (by simp[zcq,btw];omega) rfl];exact zt3 g L B C S N w hg h1 h2 h3
 by_cases h4:N>=0
 case neg=>rw[<-no false (by simp[zcq,btw];omega) rfl];exact zt4 g L B C S N w hg h1 h2 h3 h4
 by_cases h5:N<=(B.size:Int)
 case neg=>rw[<-no false (by simp[zcq,btw];omega) rfl];exact zt5 g L B C S N w hg h1 h2 h3 h4 h5
 by_cases h6:S>=0
 case neg=>rw[<-no false (by simp[zcq,btw];omega) rfl];exact zt6 g L B C S N w hg h1 h2 h3 h4 h5 h6
 by_cases h7:S<4000
 case neg=>rw[<-no false (by simp[zcq,btw];omega) rfl];exact zt7 g L B C S N w hg h1 h2 h3 h4 h5 h6 h7
 rw[<-no true (by simp[zcq,btw];omega) rfl];exact zt8 g L B C S N w hg h1 h2 h3 h4 h5 h6 h7
end
section
variable{l:Nat}
theorem zcJ(lo hi:Int)(v:Value)(xs:List Int)(w:World)(hs:zbr l w v xs):
  Calls Tryz.prog 72 #[v,.int .i64 lo,.int .i64 hi] w fun e w'=>e=.returned (.bool (zaL lo hi xs))/\w'=w:=by
 obtain⟨ao,cap,rfl,hm,hc⟩:=hs
 go_enter Tryz.func72,Tryz.ntmps72
 go_wp2
 go_loop [11] (fun i=>∃k:Nat,k<=xs.length/\i=.int .i64 k/\Hid (zaL lo hi xs=zaL lo hi (xs.drop k)))
  (fun i=>xs.length-(intOf i).toNat)
 case atStart=>exact⟨0,zvT _,rfl,rfl⟩
 case round=>
  obtain⟨k,hk,rfl,HS⟩:=hrel
  by_cases hlt:k<xs.length
  ·obtain⟨b,o,x,rfl,Hn,hbl,c0⟩:=hc.elem (Below.refl _ _) hlt;have HD:Hid _:=zh8 lo hi xs k hlt x Hn.out
   by_cases h1:x<lo
   ·have hb:Hid (btw x lo hi=false):=by show _=_;simp[btw];omega
    go_wp2;go_ret;exact⟨zae (by rw[HS.out,HD.out,hb.out,Bool.false_and]),rfl⟩
   by_cases h2:hi<x
   ·have hb:Hid (btw x lo hi=false):=by show _=_;simp[btw];omega
    go_wp2;go_ret;exact⟨zae (by rw[HS.out,HD.out,hb.out,Bool.false_and]),rfl⟩
   have hb:Hid (btw x lo hi=true):=by show _=_;simp[btw];omega
   go_wp2
   go_round
   case rel=>exact⟨k+1,by omega,by go_num,by show _=_;rw[HS.out,HD.out,hb.out,zuN]⟩
   case measure=>simp[intOf];omega
  ·go_wp2;go_ret;exact⟨zae (by rw[HS.out,zuW (by omega)];rfl),rfl⟩
theorem zfY(v:Value)(xs:List Int)(w:World)(hs:zbr l w v xs):
  Calls Tryz.prog 99 #[v] w fun e w'=>e=.returned (.bool (zaL (-1) 99 xs))/\w'=w:=by
 go_enter Tryz.func99,Tryz.ntmps99
 go_wp2_with fail
 refine(zcJ (-1) 99 _ xs _ hs).mono ?_;rintro e w' ⟨rfl,rfl⟩;go_wp2;go_ret;exact⟨rfl,rfl⟩
def clsB(xs:List Int)(wd:Int):Bool:=decide (xs.length=256)&&btw wd 1 256&&zaL 0 (wd-1) xs
theorem zjL(v:Value)(xs:List Int)(wd:Int)(w:World)(hs:zbr l w v xs):
  Calls Tryz.prog 98 #[v,.int .i64 wd] w fun e w'=>e=.returned (.bool (clsB xs wd))/\w'=w:=by
 by_cases h1:xs.length=256
 case neg=>
  have H:Hid (clsB xs wd=false):=by show _=_;simp[clsB,h1]
  obtain⟨ao,cap,rfl,hm,hc⟩:=hs;clear hc;have b1:((xs.length:Int)==256)=false:=by simp;omega
  clear h1
  go_enter Tryz.func98,Tryz.ntmps98
  go_wp2;go_ret;exact⟨zae H.out.symm,rfl⟩
 have b1:((xs.length:Int)==256)=true:=by simp[h1]
 have hs1:=hs;obtain⟨ao,cap,rfl,hm,hc⟩:=hs;clear hc
 by_cases h2:1<=wd
 case neg=>
  have H:Hid (clsB xs wd=false):=by show _=_;simp[clsB,btw,h2]
  clear h1
  go_enter Tryz.func98,Tryz.ntmps98
  go_wp2;go_ret;exact⟨zae H.out.symm,rfl⟩
 by_cases h3:wd<=256
 case neg=>
  have H:Hid (clsB xs wd=false):=by show _=_;simp[clsB,btw,h3]
  clear h1
  go_enter Tryz.func98,Tryz.ntmps98
  go_wp2;go_ret;exact⟨zae H.out.symm,rfl⟩
 have H:Hid (clsB xs wd=zaL 0 (wd-1) xs):=by show _=_;simp[clsB,btw,h1,h2,h3]
 clear h1
 go_enter Tryz.func98,Tryz.ntmps98
 go_wp2_with fail
 refine(zcJ _ _ _ xs _ hs1).mono ?_;rintro e w' ⟨rfl,rfl⟩;go_wp2;go_ret;exact⟨zae H.out.symm,rfl⟩
end
section
variable{lo:Nat}
def zc7(d:TabD):Bool:=decide (d.next.length=d.chk.length)&&decide (d.next.length<=60000)&&zaL (-1) (d.base.length-1) d.chk&&zaL 0 (d.base.length-1) d.next&&zfH d.chk d.next
theorem zcW(d:TabD):tabB d=(btw d.base.length 1 4000&&decide (d.dflt.length=d.base.length)&&decide (d.tag.length=d.base.length)&&decide (d.fin.length=d.base.length) &&
  (clsB d.classes d.width&&zaL 0 59999 d.base&&zaL 0 (d.base.length-1) d.dflt&&(zaL (-1) 99 d.tag&&zaL (-1) 99 d.fin&&zc7 d))):=by
 rw[Bool.eq_iff_iff];simp only[tabB,clsB,zc7,zuK];constructor
 ·rintro ⟨⟨⟨⟨⟨⟨⟨⟨⟨a,b⟩,c⟩,e⟩,f⟩,g⟩,i⟩,j⟩,k⟩,l,⟨⟨⟨⟨m,n⟩,o⟩,p⟩,q⟩,r⟩;exact⟨⟨⟨⟨e,f⟩,g⟩,i⟩,⟨⟨⟨⟨a,b⟩,c⟩,m⟩,n⟩,⟨o,p⟩,⟨⟨⟨j,k⟩,q⟩,r⟩,l⟩
 ·rintro ⟨⟨⟨⟨e,f⟩,g⟩,i⟩,⟨⟨⟨⟨a,b⟩,c⟩,m⟩,n⟩,⟨o,p⟩,⟨⟨⟨j,k⟩,q⟩,r⟩,l⟩;exact⟨⟨⟨⟨⟨⟨⟨⟨⟨a,b⟩,c⟩,e⟩,f⟩,g⟩,i⟩,j⟩,k⟩,l,⟨⟨⟨⟨m,n⟩,o⟩,p⟩,q⟩,r⟩
theorem zop(cv bv fv tv ev nv kv:Value)(d:TabD)(w:World)(hs:zbe lo w cv bv fv tv ev nv kv d)(_:(d.base.length:Int)<=4000)(h:¬d.next.length=d.chk.length):
  Calls Tryz.prog 100 #[.agg #[cv,.int .i64 d.width,bv,fv,tv,ev,nv,kv]] w fun e w'=>e=.returned (.bool (zc7 d))/\Below w.heap.size w w':=by
 have hb0:Below w.heap.size w (w.alloc (.cells #[cv,.int .i64 d.width,bv,fv,tv,ev,nv,kv] 39)):=(Below.refl _ _).alloc (zvJ _) _;have hs1:=hs.below hb0;clear hb0;obtain⟨⟨a0,p0,rfl,m0,y0⟩,⟨a1,p1,rfl,m1,y1⟩,⟨a2,p2,rfl,m2,y2⟩,⟨a3,p3,rfl,m3,y3⟩,⟨a4,p4,rfl,m4,y4⟩,⟨a5,p5,rfl,m5,y5⟩,⟨a6,p6,rfl,m6,y6⟩⟩:=hs;clear y0 y1 y2 y3 y4 y5 y6;have H:Hid (zc7 d=false):=by show _=_;simp[zc7,h]
 have b1:((d.chk.length:Int) != d.next.length)=true:=by simp;omega
 clear h
 go_enter Tryz.func100,Tryz.ntmps100
 go_wp2;go_ret;exact⟨zae H.out.symm,(Below.refl _ _).alloc (zvJ _) _⟩
theorem zoq(cv bv fv tv ev nv kv:Value)(d:TabD)(w:World)(hs:zbe lo w cv bv fv tv ev nv kv d)(_:(d.base.length:Int)<=4000)(g1:d.next.length=d.chk.length)(h:¬d.next.length<=60000):
  Calls Tryz.prog 100 #[.agg #[cv,.int .i64 d.width,bv,fv,tv,ev,nv,kv]] w fun e w'=>e=.returned (.bool (zc7 d))/\Below w.heap.size w w':=by
 have hb0:Below w.heap.size w (w.alloc (.cells #[cv,.int .i64 d.width,bv,fv,tv,ev,nv,kv] 39)):=(Below.refl _ _).alloc (zvJ _) _;have hs1:=hs.below hb0;clear hb0;obtain⟨⟨a0,p0,rfl,m0,y0⟩,⟨a1,p1,rfl,m1,y1⟩,⟨a2,p2,rfl,m2,y2⟩,⟨a3,p3,rfl,m3,y3⟩,⟨a4,p4,rfl,m4,y4⟩,⟨a5,p5,rfl,m5,y5⟩,⟨a6,p6,rfl,m6,y6⟩⟩:=hs;clear y0 y1 y2 y3 y4 y5 y6;have H:Hid (zc7 d=false):=by show _=_;simp[zc7,h]
 have b1:((d.chk.length:Int) != d.next.length)=false:=by simp[g1]
 clear g1
 go_enter Tryz.func100,Tryz.ntmps100
 go_wp2;go_ret;exact⟨zae H.out.symm,(Below.refl _ _).alloc (zvJ _) _⟩
theorem zqE(cv bv fv tv ev nv kv:Value)(d:TabD)(w:World)(hs:zbe lo w cv bv fv tv ev nv kv d)(hn:(d.base.length:Int)<=4000)(g1:d.next.length=d.chk.length)(g2:d.next.length<=60000):
  Calls Tryz.prog 100 #[.agg #[cv,.int .i64 d.width,bv,fv,tv,ev,nv,kv]] w fun e w'=>e=.returned (.bool (zc7 d))/\Below w.heap.size w w':=by
 have hb0:Below w.heap.size w (w.alloc (.cells #[cv,.int .i64 d.width,bv,fv,tv,ev,nv,kv] 39)):=(Below.refl _ _).alloc (zvJ _) _;have hs1:=hs.below hb0;clear hb0;have H:Hid (zc7 d=(zaL (-1) (d.base.length-1) d.chk&&zaL 0 (d.base.length-1) d.next&&zfH d.chk d.next)):=by show _=_;simp[zc7,<-g1,g2]
 have b1:((d.chk.length:Int) != d.next.length)=false:=by simp[g1]
 have Hlen:Hid (d.chk.length=d.next.length):=g1.symm;clear g1;obtain⟨⟨a0,p0,rfl,m0,y0⟩,⟨a1,p1,rfl,m1,y1⟩,⟨a2,p2,rfl,m2,y2⟩,⟨a3,p3,rfl,m3,y3⟩,⟨a4,p4,rfl,m4,y4⟩,⟨a5,p5,rfl,m5,y5⟩,⟨a6,p6,rfl,m6,y6⟩⟩:=hs;clear y0 y1 y2 y3 y4;have hbA:Below w.heap.size w (w.alloc (.cells #[.slice a0 d.classes.length p0,.int .i64 d.width,.slice a1 d.base.length p1,.slice a2 d.dflt.length p2,.slice a3 d.tag.length p3,.slice a4 d.fin.length p4,.slice a5 d.next.length p5,.slice a6 d.chk.length p6] 39)):=(Below.refl _ _).alloc (zvJ _) _
 go_enter Tryz.func100,Tryz.ntmps100
 go_wp2_with fail
 refine(zcJ _ _ _ d.chk _ hs1.chk).mono ?_;rintro e w' ⟨rfl,rfl⟩;cases q1:zaL (-1) (d.base.length-1) d.chk
 case false=>
  rw[q1] at H;go_wp2;go_ret;exact⟨zae (by rw[H.out];simp),hbA⟩
 rw[q1] at H
 go_wp2_with fail
 refine(zcJ _ _ _ d.next _ hs1.next).mono ?_;rintro e w' ⟨rfl,rfl⟩;cases q2:zaL 0 (d.base.length-1) d.next
 case false=>
  rw[q2] at H;go_wp2;go_ret;exact⟨zae (by rw[H.out];simp),hbA⟩
 rw[q2] at H;have H2:Hid (zc7 d=zfH d.chk d.next):=by show _=_;rw[H.out];simp
 clear H hs1 q1 q2;go_wp2
 go_loop [39] (fun i=>∃k:Nat,k<=d.chk.length/\i=.int .i64 k/\Hid (zc7 d=zfH (d.chk.drop k) (d.next.drop k)))
  (fun i=>d.chk.length-(intOf i).toNat)
 case atStart=>exact⟨0,zvT _,rfl,H2.out⟩
 case round=>
  clear H2;obtain⟨k,hk,rfl,HS⟩:=hrel
  by_cases hlt:k<d.chk.length
  ·have hlt2:k<d.next.length:=by have:=Hlen.out;omega
   obtain⟨b,o,x,rfl,Hn,hbl,c0⟩:=y6.elem hbA hlt;obtain⟨b2,o2,y,rfl,Hn2,hbl2,d0⟩:=y5.elem hbA hlt2;have HD:Hid _:=zii d.chk d.next k hlt hlt2 x y Hn.out Hn2.out
   by_cases hx:x=-1
   ·by_cases hy:y=0
    ·go_wp2
     go_round
     case rel=>exact⟨k+1,by omega,by go_num,by show _=_;rw[HS.out,HD.out];simp[hx,hy]⟩
     case measure=>simp[intOf];omega
    ·go_wp2;go_ret;exact⟨zae (by rw[HS.out,HD.out];simp[hx,hy]),hbA⟩
   ·have HE:Hid ((!(x == -1&&y != 0))=true):=by show _=_;simp[hx]
    go_wp2
    go_round
    case rel=>exact⟨k+1,by omega,by go_num,by show _=_;rw[HS.out,HD.out,HE.out,zuN]⟩
    case measure=>simp[intOf];omega
  ·rw[zj2 _ _ k (by omega)] at HS;go_wp2;go_ret;exact⟨zae HS.out.symm,hbA⟩
theorem zor(cv bv fv tv ev nv kv:Value)(d:TabD)(w:World)(hs:zbe lo w cv bv fv tv ev nv kv d)(hn:(d.base.length:Int)<=4000):
  Calls Tryz.prog 100 #[.agg #[cv,.int .i64 d.width,bv,fv,tv,ev,nv,kv]] w fun e w'=>e=.returned (.bool (zc7 d))/\Below w.heap.size w w':=by
 by_cases g1:d.next.length=d.chk.length
 case neg=>exact zop cv bv fv tv ev nv kv d w hs hn g1
 by_cases g2:d.next.length<=60000
 case neg=>exact zoq cv bv fv tv ev nv kv d w hs hn g1 g2
 exact zqE cv bv fv tv ev nv kv d w hs hn g1 g2
theorem zhL(cv bv fv tv ev nv kv:Value)(d:TabD)(w:World)(hs:zbe lo w cv bv fv tv ev nv kv d)(h:(d.base.length:Int)<1):
  Calls Tryz.prog 71 #[.agg #[cv,.int .i64 d.width,bv,fv,tv,ev,nv,kv]] w fun e w'=>e=.returned (.bool (tabB d))/\Below w.heap.size w w':=by
 have hb0:Below w.heap.size w (w.alloc (.cells #[cv,.int .i64 d.width,bv,fv,tv,ev,nv,kv] 39)):=(Below.refl _ _).alloc (zvJ _) _;have hs1:=hs.below hb0;clear hb0;obtain⟨⟨a0,p0,rfl,m0,y0⟩,⟨a1,p1,rfl,m1,y1⟩,⟨a2,p2,rfl,m2,y2⟩,⟨a3,p3,rfl,m3,y3⟩,⟨a4,p4,rfl,m4,y4⟩,⟨a5,p5,rfl,m5,y5⟩,⟨a6,p6,rfl,m6,y6⟩⟩:=hs;clear y0 y1 y2 y3 y4 y5 y6;have H:Hid (tabB d=false):=by
  show _=_;have e:btw d.base.length 1 4000=false:=by simp[btw];omega
  rw[zcW,e];simp
 go_enter Tryz.func71,Tryz.ntmps71
 go_wp2;go_ret;exact⟨zae H.out.symm,(Below.refl _ _).alloc (zvJ _) _⟩
theorem zhM(cv bv fv tv ev nv kv:Value)(d:TabD)(w:World)(hs:zbe lo w cv bv fv tv ev nv kv d)(t1:¬(d.base.length:Int)<1)(h:4000<(d.base.length:Int)):
  Calls Tryz.prog 71 #[.agg #[cv,.int .i64 d.width,bv,fv,tv,ev,nv,kv]] w fun e w'=>e=.returned (.bool (tabB d))/\Below w.heap.size w w':=by
 have hb0:Below w.heap.size w (w.alloc (.cells #[cv,.int .i64 d.width,bv,fv,tv,ev,nv,kv] 39)):=(Below.refl _ _).alloc (zvJ _) _;have hs1:=hs.below hb0;clear hb0;obtain⟨⟨a0,p0,rfl,m0,y0⟩,⟨a1,p1,rfl,m1,y1⟩,⟨a2,p2,rfl,m2,y2⟩,⟨a3,p3,rfl,m3,y3⟩,⟨a4,p4,rfl,m4,y4⟩,⟨a5,p5,rfl,m5,y5⟩,⟨a6,p6,rfl,m6,y6⟩⟩:=hs;clear y0 y1 y2 y3 y4 y5 y6;have H:Hid (tabB d=false):=by
  show _=_;have e:btw d.base.length 1 4000=false:=by simp[btw];omega
  rw[zcW,e];simp
 go_enter Tryz.func71,Tryz.ntmps71
 go_wp2;go_ret;exact⟨zae H.out.symm,(Below.refl _ _).alloc (zvJ _) _⟩
theorem zhN(cv bv fv tv ev nv kv:Value)(d:TabD)(w:World)(hs:zbe lo w cv bv fv tv ev nv kv d)(t1:¬(d.base.length:Int)<1)(t2:¬4000<(d.base.length:Int))(h:¬d.dflt.length=d.base.length):
  Calls Tryz.prog 71 #[.agg #[cv,.int .i64 d.width,bv,fv,tv,ev,nv,kv]] w fun e w'=>e=.returned (.bool (tabB d))/\Below w.heap.size w w':=by
 have hb0:Below w.heap.size w (w.alloc (.cells #[cv,.int .i64 d.width,bv,fv,tv,ev,nv,kv] 39)):=(Below.refl _ _).alloc (zvJ _) _;have hs1:=hs.below hb0;clear hb0;obtain⟨⟨a0,p0,rfl,m0,y0⟩,⟨a1,p1,rfl,m1,y1⟩,⟨a2,p2,rfl,m2,y2⟩,⟨a3,p3,rfl,m3,y3⟩,⟨a4,p4,rfl,m4,y4⟩,⟨a5,p5,rfl,m5,y5⟩,⟨a6,p6,rfl,m6,y6⟩⟩:=hs;clear y0 y1 y2 y3 y4 y5 y6;have H:Hid (tabB d=false):=by show _=_;rw[zcW];simp[h]
 have bh:((d.dflt.length:Int) != d.base.length)=true:=by simp;omega
 clear h
 go_enter Tryz.func71,Tryz.ntmps71
 go_wp2;go_ret;exact⟨zae H.out.symm,(Below.refl _ _).alloc (zvJ _) _⟩
theorem zhO(cv bv fv tv ev nv kv:Value)(d:TabD)(w:World)(hs:zbe lo w cv bv fv tv ev nv kv d)(t1:¬(d.base.length:Int)<1)(t2:¬4000<(d.base.length:Int))(g5:d.dflt.length=d.base.length)(h:¬d.tag.length=d.base.length):
  Calls Tryz.prog 71 #[.agg #[cv,.int .i64 d.width,bv,fv,tv,ev,nv,kv]] w fun e w'=>e=.returned (.bool (tabB d))/\Below w.heap.size w w':=by
 have hb0:Below w.heap.size w (w.alloc (.cells #[cv,.int .i64 d.width,bv,fv,tv,ev,nv,kv] 39)):=(Below.refl _ _).alloc (zvJ _) _;have hs1:=hs.below hb0;clear hb0;obtain⟨⟨a0,p0,rfl,m0,y0⟩,⟨a1,p1,rfl,m1,y1⟩,⟨a2,p2,rfl,m2,y2⟩,⟨a3,p3,rfl,m3,y3⟩,⟨a4,p4,rfl,m4,y4⟩,⟨a5,p5,rfl,m5,y5⟩,⟨a6,p6,rfl,m6,y6⟩⟩:=hs;clear y0 y1 y2 y3 y4 y5 y6;have H:Hid (tabB d=false):=by show _=_;rw[zcW];simp[h]
 have bg5:((d.dflt.length:Int) != d.base.length)=false:=by simp[g5]
 clear g5;have bh:((d.tag.length:Int) != d.base.length)=true:=by simp;omega
 clear h
 go_enter Tryz.func71,Tryz.ntmps71
 go_wp2;go_ret;exact⟨zae H.out.symm,(Below.refl _ _).alloc (zvJ _) _⟩
theorem zhP(cv bv fv tv ev nv kv:Value)(d:TabD)(w:World)(hs:zbe lo w cv bv fv tv ev nv kv d)(t1:¬(d.base.length:Int)<1)(t2:¬4000<(d.base.length:Int))(g5:d.dflt.length=d.base.length)(g6:d.tag.length=d.base.length)(h:¬d.fin.length=d.base.length):
  Calls Tryz.prog 71 #[.agg #[cv,.int .i64 d.width,bv,fv,tv,ev,nv,kv]] w fun e w'=>e=.returned (.bool (tabB d))/\Below w.heap.size w w':=by
 have hb0:Below w.heap.size w (w.alloc (.cells #[cv,.int .i64 d.width,bv,fv,tv,ev,nv,kv] 39)):=(Below.refl _ _).alloc (zvJ _) _;have hs1:=hs.below hb0;clear hb0;obtain⟨⟨a0,p0,rfl,m0,y0⟩,⟨a1,p1,rfl,m1,y1⟩,⟨a2,p2,rfl,m2,y2⟩,⟨a3,p3,rfl,m3,y3⟩,⟨a4,p4,rfl,m4,y4⟩,⟨a5,p5,rfl,m5,y5⟩,⟨a6,p6,rfl,m6,y6⟩⟩:=hs;clear y0 y1 y2 y3 y4 y5 y6;have H:Hid (tabB d=false):=by show _=_;rw[zcW];simp[h]
 have bg5:((d.dflt.length:Int) != d.base.length)=false:=by simp[g5]
 clear g5;have bg6:((d.tag.length:Int) != d.base.length)=false:=by simp[g6]
 clear g6;have bh:((d.fin.length:Int) != d.base.length)=true:=by simp;omega
 clear h
 go_enter Tryz.func71,Tryz.ntmps71
 go_wp2;go_ret;exact⟨zae H.out.symm,(Below.refl _ _).alloc (zvJ _) _⟩
theorem zi4(cv bv fv tv ev nv kv:Value)(d:TabD)(w:World)(hs:zbe lo w cv bv fv tv ev nv kv d)(t1:¬(d.base.length:Int)<1)(t2:¬4000<(d.base.length:Int))(g5:d.dflt.length=d.base.length)(g6:d.tag.length=d.base.length)(g7:d.fin.length=d.base.length):
  Calls Tryz.prog 71 #[.agg #[cv,.int .i64 d.width,bv,fv,tv,ev,nv,kv]] w fun e w'=>e=.returned (.bool (tabB d))/\Below w.heap.size w w':=by
 have hb0:Below w.heap.size w (w.alloc (.cells #[cv,.int .i64 d.width,bv,fv,tv,ev,nv,kv] 39)):=(Below.refl _ _).alloc (zvJ _) _;have hs1:=hs.below hb0;clear hb0;obtain⟨⟨a0,p0,rfl,m0,y0⟩,⟨a1,p1,rfl,m1,y1⟩,⟨a2,p2,rfl,m2,y2⟩,⟨a3,p3,rfl,m3,y3⟩,⟨a4,p4,rfl,m4,y4⟩,⟨a5,p5,rfl,m5,y5⟩,⟨a6,p6,rfl,m6,y6⟩⟩:=hs;have H:Hid (tabB d=(clsB d.classes d.width&&zaL 0 59999 d.base&&zaL 0 (d.base.length-1) d.dflt&&(zaL (-1) 99 d.tag&&zaL (-1) 99 d.fin&&zc7 d))):=by
  show _=_;have e2:btw d.base.length 1 4000=true:=by simp[btw];omega
  rw[zcW];simp[g5,g6,g7,e2]
 have hn:(d.base.length:Int)<=4000:=by omega
 clear y0 y1 y2 y3 y4 y5 y6;have bg5:((d.dflt.length:Int) != d.base.length)=false:=by simp[g5]
 clear g5;have bg6:((d.tag.length:Int) != d.base.length)=false:=by simp[g6]
 clear g6;have bg7:((d.fin.length:Int) != d.base.length)=false:=by simp[g7]
 clear g7;have r0:(w.alloc (.cells #[.slice a0 d.classes.length p0,.int .i64 d.width,.slice a1 d.base.length p1,.slice a2 d.dflt.length p2,.slice a3 d.tag.length p3,.slice a4 d.fin.length p4,.slice a5 d.next.length p5,.slice a6 d.chk.length p6] 39)).heap[w.heap.size]?=some (.cells #[.slice a0 d.classes.length p0,.int .i64 d.width,.slice a1 d.base.length p1,.slice a2 d.dflt.length p2,.slice a3 d.tag.length p3,.slice a4 d.fin.length p4,.slice a5 d.next.length p5,.slice a6 d.chk.length p6] 39 (0,0)):=zvZ _ _;have hbA:Below w.heap.size w (w.alloc (.cells #[.slice a0 d.classes.length p0,.int .i64 d.width,.slice a1 d.base.length p1,.slice a2 d.dflt.length p2,.slice a3 d.tag.length p3,.slice a4 d.fin.length p4,.slice a5 d.next.length p5,.slice a6 d.chk.length p6] 39)):=(Below.refl _ _).alloc (zvJ _) _
 go_enter Tryz.func71,Tryz.ntmps71
 go_wp2_with fail
 refine(zjL _ d.classes _ _ hs1.classes).mono ?_;rintro e w' ⟨rfl,rfl⟩;cases q0:clsB d.classes d.width
 case false=>
  rw[q0] at H;go_wp2;go_ret;exact⟨zae (by rw[H.out];simp),hbA⟩
 rw[q0] at H
 go_wp2_with fail
 refine(zcJ _ _ _ d.base _ hs1.base).mono ?_;rintro e w' ⟨rfl,rfl⟩;cases q1:zaL 0 59999 d.base
 case false=>
  rw[q1] at H;go_wp2;go_ret;exact⟨zae (by rw[H.out];simp),hbA⟩
 rw[q1] at H
 go_wp2_with fail
 refine(zcJ _ _ _ d.dflt _ hs1.dflt).mono ?_;rintro e w' ⟨rfl,rfl⟩;cases q2:zaL 0 (d.base.length-1) d.dflt
 case false=>
  rw[q2] at H;go_wp2;go_ret;exact⟨zae (by rw[H.out];simp),hbA⟩
 rw[q2] at H
 go_wp2_with fail
 refine(zfY _ d.tag _ hs1.tag).mono ?_;rintro e w' ⟨rfl,rfl⟩;cases q3:zaL (-1) 99 d.tag
 case false=>
  rw[q3] at H;go_wp2;go_ret;exact⟨zae (by rw[H.out];simp),hbA⟩
 rw[q3] at H
 go_wp2_with fail
 refine(zfY _ d.fin _ hs1.fin).mono ?_;rintro e w' ⟨rfl,rfl⟩;cases q4:zaL (-1) 99 d.fin
 case false=>
  rw[q4] at H;go_wp2;go_ret;exact⟨zae (by rw[H.out];simp),hbA⟩
 rw[q4] at H
 go_wp2_with fail
 refine(zor _ _ _ _ _ _ _ d _ hs1 hn).mono ?_;rintro e w2 ⟨rfl,hb2⟩;go_wp2;go_ret;exact⟨zae (by rw[H.out];simp),zaa hbA hbA.size hb2⟩
theorem zhQ(cv bv fv tv ev nv kv:Value)(d:TabD)(w:World)(hs:zbe lo w cv bv fv tv ev nv kv d)(_:zcu d):
  Calls Tryz.prog 71 #[.agg #[cv,.int .i64 d.width,bv,fv,tv,ev,nv,kv]] w fun e w'=>e=.returned (.bool (tabB d))/\Below w.heap.size w w':=by
 by_cases t1:(d.base.length:Int)<1
 case pos=>exact zhL cv bv fv tv ev nv kv d w hs t1
 by_cases t2:4000<(d.base.length:Int)
 case pos=>exact zhM cv bv fv tv ev nv kv d w hs t1 t2
 by_cases g5:d.dflt.length=d.base.length
 case neg=>exact zhN cv bv fv tv ev nv kv d w hs t1 t2 g5
 by_cases g6:d.tag.length=d.base.length
 case neg=>exact zhO cv bv fv tv ev nv kv d w hs t1 t2 g5 g6
 by_cases g7:d.fin.length=d.base.length
 case neg=>exact zhP cv bv fv tv ev nv kv d w hs t1 t2 g5 g6 g7
 exact zi4 cv bv fv tv ev nv kv d w hs t1 t2 g5 g6 g7
end
variable{lo:Nat}
attribute [local go_sem ↓] Go.wp_at_zero Go.wp_at_succ
theorem zqM(cv bv fv tv ev nv kv:Value)(d:TabD)(s c:Nat)(w:World)(hs:zbe lo w cv bv fv tv ev nv kv d)(hf:zbX d)(hs0:s<d.base.length)(hc:c<256)(h:¬za6 d s c<d.chk.length):
  Calls Tryz.prog 76 #[.agg #[cv,.int .i64 d.width,bv,fv,tv,ev,nv,kv],.int .i64 s,.int .i64 c] w fun e w'=>e=.returned (.int .i64 (zcb d s c))/\Below w.heap.size w w':=by
 obtain⟨⟨a0,p0,rfl,m0,y0⟩,⟨a1,p1,rfl,m1,y1⟩,⟨a2,p2,rfl,m2,y2⟩,⟨a3,p3,rfl,m3,y3⟩,⟨a4,p4,rfl,m4,y4⟩,⟨a5,p5,rfl,m5,y5⟩,⟨a6,p6,rfl,m6,y6⟩⟩:=hs;have hcl:=hf.cl;have hn1:=hf.n1;have hn2:=hf.n2;have hdl:=hf.dl;have hnk:=hf.nk;have hnm:=hf.nm;obtain⟨x0,x1,z0,z1,hsl⟩:=hf.bd hs0 hc;obtain⟨cb,co,rfl,_,cl,cq⟩:=y0 (by omega);obtain⟨bb,bo,rfl,_,bl,bq⟩:=y1 (by omega);obtain⟨fb,fo,rfl,_,fl,fq⟩:=y2 (by omega);have c0:w.cell? ⟨cb,co+c,none⟩=some (.int .i64 (zbm d c)):=cq c (by omega);have b0:w.cell? ⟨bb,bo+s,none⟩=some (.int .i64 (zbl d s)):=bq s hs0;have f0:w.cell? ⟨fb,fo+s,none⟩=some (.int .i64 (zci d s)):=fq s (by omega);have i0:(0:Int)<=(s:Int):=by omega
 have i1:(s:Int)<(d.base.length:Int):=by omega
 have i2:(0:Int)<=(c:Int):=by omega
 have i3:(c:Int)<(d.classes.length:Int):=by omega
 have i4:(s:Int)<(d.dflt.length:Int):=by omega
 have H:Hid (zcb d s c=zci d s):=by show _=_;unfold zcb;rw[zv2 (fun k=>h k.1)]
 have i5:¬zbl d s+zbm d c<(d.chk.length:Int):=by omega
 clear y3 y4 y5 y6 cq bq fq hsl h;generalize zbl d s=x at *;generalize zbm d c=y at *;generalize zci d s=z at *
 go_enter Tryz.func76,Tryz.ntmps76
 go_wp2
 go_quiet (fail)
 go_wp2;go_ret;exact⟨zaR H.out.symm,below_drewN ((Below.refl _ _).alloc (zvJ _) _) _⟩
theorem zmp(cv bv fv tv ev nv kv:Value)(d:TabD)(s c:Nat)(w:World)(hs:zbe lo w cv bv fv tv ev nv kv d)(hf:zbX d)(hs0:s<d.base.length)(hc:c<256)(h:za6 d s c<d.chk.length)(h2:¬zfC d (za6 d s c)=s):
  Calls Tryz.prog 76 #[.agg #[cv,.int .i64 d.width,bv,fv,tv,ev,nv,kv],.int .i64 s,.int .i64 c] w fun e w'=>e=.returned (.int .i64 (zcb d s c))/\Below w.heap.size w w':=by
 obtain⟨⟨a0,p0,rfl,m0,y0⟩,⟨a1,p1,rfl,m1,y1⟩,⟨a2,p2,rfl,m2,y2⟩,⟨a3,p3,rfl,m3,y3⟩,⟨a4,p4,rfl,m4,y4⟩,⟨a5,p5,rfl,m5,y5⟩,⟨a6,p6,rfl,m6,y6⟩⟩:=hs;have hcl:=hf.cl;have hn1:=hf.n1;have hn2:=hf.n2;have hdl:=hf.dl;have hnk:=hf.nk;have hnm:=hf.nm;obtain⟨x0,x1,z0,z1,hsl⟩:=hf.bd hs0 hc;obtain⟨cb,co,rfl,_,cl,cq⟩:=y0 (by omega);obtain⟨bb,bo,rfl,_,bl,bq⟩:=y1 (by omega);obtain⟨fb,fo,rfl,_,fl,fq⟩:=y2 (by omega);have c0:w.cell? ⟨cb,co+c,none⟩=some (.int .i64 (zbm d c)):=cq c (by omega);have b0:w.cell? ⟨bb,bo+s,none⟩=some (.int .i64 (zbl d s)):=bq s hs0;have f0:w.cell? ⟨fb,fo+s,none⟩=some (.int .i64 (zci d s)):=fq s (by omega);have i0:(0:Int)<=(s:Int):=by omega
 have i1:(s:Int)<(d.base.length:Int):=by omega
 have i2:(0:Int)<=(c:Int):=by omega
 have i3:(c:Int)<(d.classes.length:Int):=by omega
 have i4:(s:Int)<(d.dflt.length:Int):=by omega
 obtain⟨kb,ko,rfl,_,kl,kq⟩:=y6 (by omega);have k0:w.cell? ⟨kb,ko+(zbl d s+zbm d c).toNat,none⟩=some (.int .i64 (zfC d (za6 d s c))):=kq (za6 d s c) h;have i5:zbl d s+zbm d c<(d.chk.length:Int):=by omega
 have H:Hid (zcb d s c=zci d s):=by show _=_;unfold zcb;rw[zv2 (fun k=>h2 k.2)]
 clear y3 y4 y5 cq bq fq hsl h kq;generalize zfC d (za6 d s c)=q at *;generalize zbl d s=x at *;generalize zbm d c=y at *;generalize zci d s=z at *
 go_enter Tryz.func76,Tryz.ntmps76
 go_wp2
 go_quiet (fail)
 go_wp2;go_ret;exact⟨zaR H.out.symm,below_drewN ((Below.refl _ _).alloc (zvJ _) _) _⟩
theorem zqN(cv bv fv tv ev nv kv:Value)(d:TabD)(s c:Nat)(w:World)(hs:zbe lo w cv bv fv tv ev nv kv d)(hf:zbX d)(hs0:s<d.base.length)(hc:c<256)(h:za6 d s c<d.chk.length)(h2:zfC d (za6 d s c)=s):
  Calls Tryz.prog 76 #[.agg #[cv,.int .i64 d.width,bv,fv,tv,ev,nv,kv],.int .i64 s,.int .i64 c] w fun e w'=>e=.returned (.int .i64 (zcb d s c))/\Below w.heap.size w w':=by
 obtain⟨⟨a0,p0,rfl,m0,y0⟩,⟨a1,p1,rfl,m1,y1⟩,⟨a2,p2,rfl,m2,y2⟩,⟨a3,p3,rfl,m3,y3⟩,⟨a4,p4,rfl,m4,y4⟩,⟨a5,p5,rfl,m5,y5⟩,⟨a6,p6,rfl,m6,y6⟩⟩:=hs;have hcl:=hf.cl;have hn1:=hf.n1;have hn2:=hf.n2;have hdl:=hf.dl;have hnk:=hf.nk;have hnm:=hf.nm;obtain⟨x0,x1,z0,z1,hsl⟩:=hf.bd hs0 hc;obtain⟨cb,co,rfl,_,cl,cq⟩:=y0 (by omega);obtain⟨bb,bo,rfl,_,bl,bq⟩:=y1 (by omega);obtain⟨fb,fo,rfl,_,fl,fq⟩:=y2 (by omega);have c0:w.cell? ⟨cb,co+c,none⟩=some (.int .i64 (zbm d c)):=cq c (by omega);have b0:w.cell? ⟨bb,bo+s,none⟩=some (.int .i64 (zbl d s)):=bq s hs0;have f0:w.cell? ⟨fb,fo+s,none⟩=some (.int .i64 (zci d s)):=fq s (by omega);have i0:(0:Int)<=(s:Int):=by omega
 have i1:(s:Int)<(d.base.length:Int):=by omega
 have i2:(0:Int)<=(c:Int):=by omega
 have i3:(c:Int)<(d.classes.length:Int):=by omega
 have i4:(s:Int)<(d.dflt.length:Int):=by omega
 obtain⟨kb,ko,rfl,_,kl,kq⟩:=y6 (by omega);have k0:w.cell? ⟨kb,ko+(zbl d s+zbm d c).toNat,none⟩=some (.int .i64 (zfC d (za6 d s c))):=kq (za6 d s c) h;have i5:zbl d s+zbm d c<(d.chk.length:Int):=by omega
 obtain⟨nb,no,rfl,_,nl,nq⟩:=y5 (by omega);have n0:w.cell? ⟨nb,no+(zbl d s+zbm d c).toNat,none⟩=some (.int .i64 (zeh d (za6 d s c))):=nq (za6 d s c) (by omega);have i6:zbl d s+zbm d c<(d.next.length:Int):=by omega
 have H:Hid (zcb d s c=zeh d (za6 d s c)):=by show _=_;unfold zcb;rw[zv3 ⟨h,h2⟩]
 rw[h2] at k0;clear y3 y4 cq bq fq hsl h kq nq h2;generalize zeh d (za6 d s c)=q at *;generalize zbl d s=x at *;generalize zbm d c=y at *;generalize zci d s=z at *
 go_enter Tryz.func76,Tryz.ntmps76
 go_wp2
 go_quiet (fail)
 go_wp2;go_ret;exact⟨zaR H.out.symm,below_drewN ((Below.refl _ _).alloc (zvJ _) _) _⟩
theorem zsB(cv bv fv tv ev nv kv:Value)(d:TabD)(s c:Nat)(w:World)(hs:zbe lo w cv bv fv tv ev nv kv d)(hf:zbX d)(hs0:s<d.base.length)(hc:c<256):
  Calls Tryz.prog 76 #[.agg #[cv,.int .i64 d.width,bv,fv,tv,ev,nv,kv],.int .i64 s,.int .i64 c] w fun e w'=>e=.returned (.int .i64 (zcb d s c))/\Below w.heap.size w w':=by
 by_cases h:za6 d s c<d.chk.length
 ·by_cases h2:zfC d (za6 d s c)=s
  ·exact zqN cv bv fv tv ev nv kv d s c w hs hf hs0 hc h h2
  ·exact zmp cv bv fv tv ev nv kv d s c w hs hf hs0 hc h h2
 ·exact zqM cv bv fv tv ev nv kv d s c w hs hf hs0 hc h
end Go.Proofs.YtdimhpfiieepiaaGreatDoor
