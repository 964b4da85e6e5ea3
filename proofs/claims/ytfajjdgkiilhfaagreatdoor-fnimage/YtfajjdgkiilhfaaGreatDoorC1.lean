import Derived.Test.YtfajjdgkiilhfaaGreatDoorC0
namespace Go.Proofs.YtfajjdgkiilhfaaGreatDoor
open Proofs.Tryz
open Value renaming int->za,agg->zg
open RowKit renaming Below->zb,Hid->zc
open Go renaming World->zd,Value->ze,Calls->zf
open Obj renaming cells->zh
set_option maxHeartbeats 1000000
set_option maxRecDepth 100000
open Go.RowKit
section
variable {lo:Nat}
def dH(d:aL):Bool:=
 decide (d.ai.length=256)&&aG d.width 1 256&&aG d.tag.length 1 4000&&decide (d.fin.length=d.tag.length)&&decide ((d.next.length:Int)=d.tag.length*d.width) &&
 cd 0 (d.width-1) d.ai&&cd 0 (d.tag.length-1) d.next&&cd (-1) 99 d.tag&&cd (-1) 99 d.fin
theorem kK{x a b:Int}:aG x a b=true↔a<=x/\x<=b:=by simp[aG]
theorem zlU(cv nv tv ev:ze)(d:aL)(w:zd)(hs:dP lo w cv nv tv ev d)(h:¬d.ai.length=256):
  zf prog 20 #[zg #[cv,za .i64 d.width,nv,tv,ev]] w λe w'=>e=.returned (.bool (dH d))/\zb w.heap.size w w':=by
 have aD:zb w.heap.size w (w.alloc (zh #[cv,za .i64 d.width,nv,tv,ev] 25)):=ax;have cI:=hs.below aD;clear aD;obtain⟨⟨ca,cc,rfl,cm,cx⟩,⟨na,nc,rfl,nm,nx⟩,⟨ta,tc,rfl,tm,tx⟩,⟨ea,ec,rfl,em,ex⟩⟩:=hs;clear cx nx tx ex;have H:zc (dH d=false):=by show _=_;simp[dH, *]
 go_enter func20,ntmps20
 go_wp2_with (first|(go_at_call 45;refine(ln _ _ _ _).mono ?_;rintro e w' ⟨rfl,rfl⟩)|(go_at_call 46;(first|refine(mh _ _ _ d.ai _ cI.ai).mono ?_|refine(mh _ _ _ d.next _ cI.next).mono ?_|refine(mh _ _ _ d.tag _ cI.tag).mono ?_|refine(mh _ _ _ d.fin _ cI.fin).mono ?_);rintro e w' ⟨rfl,rfl⟩))
 go_ret
 exact⟨cU H.out.symm,ax⟩
theorem zlV(cv nv tv ev:ze)(d:aL)(w:zd)(hs:dP lo w cv nv tv ev d)(g1:d.ai.length=256)(h:aG d.width 1 256=false):
  zf prog 20 #[zg #[cv,za .i64 d.width,nv,tv,ev]] w λe w'=>e=.returned (.bool (dH d))/\zb w.heap.size w w':=by
 have aD:zb w.heap.size w (w.alloc (zh #[cv,za .i64 d.width,nv,tv,ev] 25)):=ax;have cI:=hs.below aD;clear aD;obtain⟨⟨ca,cc,rfl,cm,cx⟩,⟨na,nc,rfl,nm,nx⟩,⟨ta,tc,rfl,tm,tx⟩,⟨ea,ec,rfl,em,ex⟩⟩:=hs;clear cx nx tx ex;have H:zc (dH d=false):=by show _=_;simp[dH, *]
 go_enter func20,ntmps20
 go_wp2_with (first|(go_at_call 45;refine(ln _ _ _ _).mono ?_;rintro e w' ⟨rfl,rfl⟩)|(go_at_call 46;(first|refine(mh _ _ _ d.ai _ cI.ai).mono ?_|refine(mh _ _ _ d.next _ cI.next).mono ?_|refine(mh _ _ _ d.tag _ cI.tag).mono ?_|refine(mh _ _ _ d.fin _ cI.fin).mono ?_);rintro e w' ⟨rfl,rfl⟩))
 go_ret
 exact⟨cU H.out.symm,ax⟩
theorem zlW(cv nv tv ev:ze)(d:aL)(w:zd)(hs:dP lo w cv nv tv ev d)(g1:d.ai.length=256)(g2:aG d.width 1 256=true)(h:aG d.tag.length 1 4000=false):
  zf prog 20 #[zg #[cv,za .i64 d.width,nv,tv,ev]] w λe w'=>e=.returned (.bool (dH d))/\zb w.heap.size w w':=by
 have aD:zb w.heap.size w (w.alloc (zh #[cv,za .i64 d.width,nv,tv,ev] 25)):=ax;have cI:=hs.below aD;clear aD;obtain⟨⟨ca,cc,rfl,cm,cx⟩,⟨na,nc,rfl,nm,nx⟩,⟨ta,tc,rfl,tm,tx⟩,⟨ea,ec,rfl,em,ex⟩⟩:=hs;clear cx nx tx ex;have H:zc (dH d=false):=by show _=_;simp[dH, *]
 go_enter func20,ntmps20
 go_wp2_with (first|(go_at_call 45;refine(ln _ _ _ _).mono ?_;rintro e w' ⟨rfl,rfl⟩)|(go_at_call 46;(first|refine(mh _ _ _ d.ai _ cI.ai).mono ?_|refine(mh _ _ _ d.next _ cI.next).mono ?_|refine(mh _ _ _ d.tag _ cI.tag).mono ?_|refine(mh _ _ _ d.fin _ cI.fin).mono ?_);rintro e w' ⟨rfl,rfl⟩))
 go_ret
 exact⟨cU H.out.symm,ax⟩
theorem zlX(cv nv tv ev:ze)(d:aL)(w:zd)(hs:dP lo w cv nv tv ev d)(g1:d.ai.length=256)(g2:aG d.width 1 256=true)(g3:aG d.tag.length 1 4000=true)(h:¬d.fin.length=d.tag.length):
  zf prog 20 #[zg #[cv,za .i64 d.width,nv,tv,ev]] w λe w'=>e=.returned (.bool (dH d))/\zb w.heap.size w w':=by
 have aD:zb w.heap.size w (w.alloc (zh #[cv,za .i64 d.width,nv,tv,ev] 25)):=ax;have cI:=hs.below aD;clear aD;obtain⟨⟨ca,cc,rfl,cm,cx⟩,⟨na,nc,rfl,nm,nx⟩,⟨ta,tc,rfl,tm,tx⟩,⟨ea,ec,rfl,em,ex⟩⟩:=hs;clear cx nx tx ex;have hw:=kK.1 g2;have ht:=kK.1 g3;have hmul:(d.tag.length:Int)*d.width<=4000*256:=wU (by omega) (by omega) (by omega) (by omega);have Nz:0<=(d.tag.length:Int)*d.width:=Bm (by omega) (by omega);have H:zc (dH d=false):=by show _=_;simp[dH, *]
 go_enter func20,ntmps20
 go_wp2_with (first|(go_at_call 45;refine(ln _ _ _ _).mono ?_;rintro e w' ⟨rfl,rfl⟩)|(go_at_call 46;(first|refine(mh _ _ _ d.ai _ cI.ai).mono ?_|refine(mh _ _ _ d.next _ cI.next).mono ?_|refine(mh _ _ _ d.tag _ cI.tag).mono ?_|refine(mh _ _ _ d.fin _ cI.fin).mono ?_);rintro e w' ⟨rfl,rfl⟩))
 go_ret
 exact⟨cU H.out.symm,ax⟩
theorem zlY(cv nv tv ev:ze)(d:aL)(w:zd)(hs:dP lo w cv nv tv ev d)(g1:d.ai.length=256)(g2:aG d.width 1 256=true)(g3:aG d.tag.length 1 4000=true)(g4:d.fin.length=d.tag.length)(h:¬(d.next.length:Int)=d.tag.length*d.width):
  zf prog 20 #[zg #[cv,za .i64 d.width,nv,tv,ev]] w λe w'=>e=.returned (.bool (dH d))/\zb w.heap.size w w':=by
 have aD:zb w.heap.size w (w.alloc (zh #[cv,za .i64 d.width,nv,tv,ev] 25)):=ax;have cI:=hs.below aD;clear aD;obtain⟨⟨ca,cc,rfl,cm,cx⟩,⟨na,nc,rfl,nm,nx⟩,⟨ta,tc,rfl,tm,tx⟩,⟨ea,ec,rfl,em,ex⟩⟩:=hs;clear cx nx tx ex;have hw:=kK.1 g2;have ht:=kK.1 g3;have hmul:(d.tag.length:Int)*d.width<=4000*256:=wU (by omega) (by omega) (by omega) (by omega);have Nz:0<=(d.tag.length:Int)*d.width:=Bm (by omega) (by omega);have H:zc (dH d=false):=by show _=_;simp[dH, *]
 go_enter func20,ntmps20
 go_wp2_with (first|(go_at_call 45;refine(ln _ _ _ _).mono ?_;rintro e w' ⟨rfl,rfl⟩)|(go_at_call 46;(first|refine(mh _ _ _ d.ai _ cI.ai).mono ?_|refine(mh _ _ _ d.next _ cI.next).mono ?_|refine(mh _ _ _ d.tag _ cI.tag).mono ?_|refine(mh _ _ _ d.fin _ cI.fin).mono ?_);rintro e w' ⟨rfl,rfl⟩))
 go_ret
 exact⟨cU H.out.symm,ax⟩
theorem zni(cv nv tv ev:ze)(d:aL)(w:zd)(hs:dP lo w cv nv tv ev d)(g1:d.ai.length=256)(g2:aG d.width 1 256=true)(g3:aG d.tag.length 1 4000=true)(g4:d.fin.length=d.tag.length)(g5:(d.next.length:Int)=d.tag.length*d.width):
  zf prog 20 #[zg #[cv,za .i64 d.width,nv,tv,ev]] w λe w'=>e=.returned (.bool (dH d))/\zb w.heap.size w w':=by
 have aD:zb w.heap.size w (w.alloc (zh #[cv,za .i64 d.width,nv,tv,ev] 25)):=ax;have cI:=hs.below aD;clear aD;obtain⟨⟨ca,cc,rfl,cm,cx⟩,⟨na,nc,rfl,nm,nx⟩,⟨ta,tc,rfl,tm,tx⟩,⟨ea,ec,rfl,em,ex⟩⟩:=hs;clear cx nx tx ex;have hw:=kK.1 g2;have ht:=kK.1 g3;have hmul:(d.tag.length:Int)*d.width<=4000*256:=wU (by omega) (by omega) (by omega) (by omega);have Nz:0<=(d.tag.length:Int)*d.width:=Bm (by omega) (by omega);have b1:((d.ai.length:Int) != 256)=false:=by simp[g1]
 have b4:((d.fin.length:Int) != d.tag.length)=false:=by simp[g4]
 have b5:((d.next.length:Int) != d.tag.length*d.width)=false:=by simp[g5]
 have H:zc (dH d=(cd 0 (d.width-1) d.ai&&cd 0 (d.tag.length-1) d.next&&cd (-1) 99 d.tag&&cd (-1) 99 d.fin)):=by show _=_;simp[dH, *]
 clear g1 g4 g5
 go_enter func20,ntmps20
 go_wp2_with (go_at_call 45;refine(ln _ _ _ _).mono ?_;rintro e w' ⟨rfl,rfl⟩)
 refine(mh _ _ _ d.ai _ cI.ai).mono ?_;rintro e w' ⟨rfl,rfl⟩;cases g6:cd 0 (d.width-1) d.ai
 case false=>
  rw[g6]at H;go_wp2;go_ret;exact⟨cU (by rw[H.out];simp),ax⟩
 rw[g6]at H
 go_wp2_with fail
 refine(mh _ _ _ d.next _ cI.next).mono ?_;rintro e w' ⟨rfl,rfl⟩;cases g7:cd 0 (d.tag.length-1) d.next
 case false=>
  rw[g7]at H;go_wp2;go_ret;exact⟨cU (by rw[H.out];simp),ax⟩
 rw[g7]at H
 go_wp2_with fail
 refine(mh _ _ _ d.tag _ cI.tag).mono ?_;rintro e w' ⟨rfl,rfl⟩;cases g8:cd (-1) 99 d.tag
 case false=>
  rw[g8]at H;go_wp2;go_ret;exact⟨cU (by rw[H.out];simp),ax⟩
 rw[g8]at H
 go_wp2_with fail
 refine(mh _ _ _ d.fin _ cI.fin).mono ?_;rintro e w' ⟨rfl,rfl⟩;go_wp2;go_ret;exact⟨cU (by rw[H.out];simp),ax⟩
theorem S8(cv nv tv ev:ze)(d:aL)(w:zd)(hs:dP lo w cv nv tv ev d):
  zf prog 20 #[zg #[cv,za .i64 d.width,nv,tv,ev]] w λe w'=>e=.returned (.bool (dH d))/\zb w.heap.size w w':=by
 by_cases g1:d.ai.length=256
 case neg=>exact zlU cv nv tv ev d w hs g1
 cases g2:aG d.width 1 256
 case false=>exact zlV cv nv tv ev d w hs g1 g2
 cases g3:aG d.tag.length 1 4000
 case false=>exact zlW cv nv tv ev d w hs g1 g2 g3
 by_cases g4:d.fin.length=d.tag.length
 case neg=>exact zlX cv nv tv ev d w hs g1 g2 g3 g4
 by_cases g5:(d.next.length:Int)=d.tag.length*d.width
 case neg=>exact zlY cv nv tv ev d w hs g1 g2 g3 g4 g5
 exact zni cv nv tv ev d w hs g1 g2 g3 g4 g5
end
section
variable {l:Nat}
theorem Ir(lo hi:Int)(v:ze)(xs:List Int)(w:zd)(hs:dD l w v xs):
  zf prog 29 #[v,za .i64 lo,za .i64 hi] w λe w'=>e=.returned (.bool (cd lo hi xs))/\w'=w:=by
 obtain⟨ao,cap,rfl,hm,hc⟩:=hs
 go_enter func29,ntmps29
 go_wp2
 go_loop [11] (λi=>∃k:Nat,k<=xs.length/\i=za .i64 k/\zc (cd lo hi xs=cd lo hi (xs.drop k)))
  (λi=>xs.length-(intOf i).toNat)
 case atStart=>exact⟨0,dz _,rfl,rfl⟩
 case round=>
  obtain⟨k,hk,rfl,HS⟩:=hrel
  by_cases hlt:k<xs.length
  ·obtain⟨b,o,x,rfl,Hn,bF,c0⟩:=hc.elem (Below.refl _ _) hlt;have HD:zc _:=ziL lo hi xs k hlt x Hn.out
   by_cases h1:x<lo
   ·have hb:zc (aG x lo hi=false):=by show _=_;simp[aG];omega
    go_wp2;go_ret;exact⟨cU (by rw[HS.out,HD.out,hb.out,Bool.false_and]),rfl⟩
   by_cases h2:hi<x
   ·have hb:zc (aG x lo hi=false):=by show _=_;simp[aG];omega
    go_wp2;go_ret;exact⟨cU (by rw[HS.out,HD.out,hb.out,Bool.false_and]),rfl⟩
   have hb:zc (aG x lo hi=true):=by show _=_;simp[aG];omega
   go_wp2
   go_round
   case rel=>exact⟨k+1,by omega,by go_num,by show _=_;rw[HS.out,HD.out,hb.out,Ag]⟩
   case measure=>simp[intOf];omega
  ·go_wp2;go_ret;exact⟨cU (by rw[HS.out,Bn (by omega)];rfl),rfl⟩
theorem S6(v:ze)(xs:List Int)(w:zd)(hs:dD l w v xs):
  zf prog 30 #[v] w λe w'=>e=.returned (.bool (cd (-1) 99 xs))/\w'=w:=by
 go_enter func30,ntmps30
 go_wp2_with fail
 refine(Ir (-1) 99 _ xs _ hs).mono ?_;rintro e w' ⟨rfl,rfl⟩;go_wp2;go_ret;exact⟨rfl,rfl⟩
def l9(xs:List Int)(wd:Int):Bool:=decide (xs.length=256)&&aG wd 1 256&&cd 0 (wd-1) xs
theorem If(v:ze)(xs:List Int)(wd:Int)(w:zd)(hs:dD l w v xs):
  zf prog 28 #[v,za .i64 wd] w λe w'=>e=.returned (.bool (l9 xs wd))/\w'=w:=by
 by_cases h1:xs.length=256
 case neg=>
  have H:zc (l9 xs wd=false):=by show _=_;simp[l9,h1]
  obtain⟨ao,cap,rfl,hm,hc⟩:=hs;clear hc;have b1:((xs.length:Int)==256)=false:=by simp;omega
  clear h1
  go_enter func28,ntmps28
  go_wp2;go_ret;exact⟨cU H.out.symm,rfl⟩
 have b1:((xs.length:Int)==256)=true:=by simp[h1]
 have cI:=hs;obtain⟨ao,cap,rfl,hm,hc⟩:=hs;clear hc
 by_cases h2:1<=wd
 case neg=>
  have H:zc (l9 xs wd=false):=by show _=_;simp[l9,aG,h2]
  clear h1
  go_enter func28,ntmps28
  go_wp2;go_ret;exact⟨cU H.out.symm,rfl⟩
 by_cases h3:wd<=256
 case neg=>
  have H:zc (l9 xs wd=false):=by show _=_;simp[l9,aG,h3]
  clear h1
  go_enter func28,ntmps28
  go_wp2;go_ret;exact⟨cU H.out.symm,rfl⟩
 have H:zc (l9 xs wd=cd 0 (wd-1) xs):=by show _=_;simp[l9,aG,h1,h2,h3]
 clear h1
 go_enter func28,ntmps28
 go_wp2_with fail
 refine(Ir _ _ _ xs _ cI).mono ?_;rintro e w' ⟨rfl,rfl⟩;go_wp2;go_ret;exact⟨cU H.out.symm,rfl⟩
end
section
variable {lo:Nat}
theorem Ld(d:aL):dH d=(l9 d.ai d.width&&(aG d.tag.length 1 4000&&decide (d.fin.length=d.tag.length)&&decide ((d.next.length:Int)=d.tag.length*d.width)&&(cd 0 (d.tag.length-1) d.next&&cd (-1) 99 d.tag&&cd (-1) 99 d.fin))):=by
 simp only[dH,l9,Bool.and_assoc,Bool.and_comm,Bool.and_left_comm]
theorem Ou{xs:List Int}{wd:Int}(h:l9 xs wd=true):1<=wd/\wd<=256:=by
 simp only[l9,fI,kK]at h;exact h.1.2
theorem zk9(cv nv tv ev:ze)(d:aL)(w:zd)(hs:dP lo w cv nv tv ev d)(h:l9 d.ai d.width=false):
  zf prog 23 #[zg #[cv,za .i64 d.width,nv,tv,ev]] w λe w'=>e=.returned (.bool (dH d))/\zb w.heap.size w w':=by
 have aD:zb w.heap.size w (w.alloc (zh #[cv,za .i64 d.width,nv,tv,ev] 25)):=ax;have cI:=hs.below aD;clear aD;obtain⟨⟨ca,cc,rfl,cm,cx⟩,⟨na,nc,rfl,nm,nx⟩,⟨ta,tc,rfl,tm,tx⟩,⟨ea,ec,rfl,em,ex⟩⟩:=hs;clear cx nx tx ex;have H:zc (dH d=false):=by show _=_;rw[Ld,h,Bool.false_and]
 go_enter func23,ntmps23
 go_wp2_with fail
 refine(If _ d.ai _ _ cI.ai).mono ?_;rintro e w' ⟨rfl,rfl⟩;rw[h];go_wp2;go_ret;exact⟨cU H.out.symm,ax⟩
theorem zla(cv nv tv ev:ze)(d:aL)(w:zd)(hs:dP lo w cv nv tv ev d)(g1:l9 d.ai d.width=true)(h:(d.tag.length:Int)<1):
  zf prog 23 #[zg #[cv,za .i64 d.width,nv,tv,ev]] w λe w'=>e=.returned (.bool (dH d))/\zb w.heap.size w w':=by
 have aD:zb w.heap.size w (w.alloc (zh #[cv,za .i64 d.width,nv,tv,ev] 25)):=ax;have cI:=hs.below aD;clear aD;obtain⟨⟨ca,cc,rfl,cm,cx⟩,⟨na,nc,rfl,nm,nx⟩,⟨ta,tc,rfl,tm,tx⟩,⟨ea,ec,rfl,em,ex⟩⟩:=hs;clear cx nx tx ex;have hw:=Ou g1;have H:zc (dH d=false):=by
  show _=_;have e:aG d.tag.length 1 4000=false:=by simp[aG];omega
  rw[Ld,e];simp
 go_enter func23,ntmps23
 go_wp2_with fail
 refine(If _ d.ai _ _ cI.ai).mono ?_;rintro e w' ⟨rfl,rfl⟩;rw[g1];go_wp2;go_ret;exact⟨cU H.out.symm,ax⟩
theorem zlb(cv nv tv ev:ze)(d:aL)(w:zd)(hs:dP lo w cv nv tv ev d)(g1:l9 d.ai d.width=true)(t1:¬(d.tag.length:Int)<1)(h:4000<(d.tag.length:Int)):
  zf prog 23 #[zg #[cv,za .i64 d.width,nv,tv,ev]] w λe w'=>e=.returned (.bool (dH d))/\zb w.heap.size w w':=by
 have aD:zb w.heap.size w (w.alloc (zh #[cv,za .i64 d.width,nv,tv,ev] 25)):=ax;have cI:=hs.below aD;clear aD;obtain⟨⟨ca,cc,rfl,cm,cx⟩,⟨na,nc,rfl,nm,nx⟩,⟨ta,tc,rfl,tm,tx⟩,⟨ea,ec,rfl,em,ex⟩⟩:=hs;clear cx nx tx ex;have hw:=Ou g1;have H:zc (dH d=false):=by
  show _=_;have e:aG d.tag.length 1 4000=false:=by simp[aG];omega
  rw[Ld,e];simp
 go_enter func23,ntmps23
 go_wp2_with fail
 refine(If _ d.ai _ _ cI.ai).mono ?_;rintro e w' ⟨rfl,rfl⟩;rw[g1];go_wp2;go_ret;exact⟨cU H.out.symm,ax⟩
theorem zlc(cv nv tv ev:ze)(d:aL)(w:zd)(hs:dP lo w cv nv tv ev d)(g1:l9 d.ai d.width=true)(t1:¬(d.tag.length:Int)<1)(t2:¬4000<(d.tag.length:Int))(h:¬d.fin.length=d.tag.length):
  zf prog 23 #[zg #[cv,za .i64 d.width,nv,tv,ev]] w λe w'=>e=.returned (.bool (dH d))/\zb w.heap.size w w':=by
 have aD:zb w.heap.size w (w.alloc (zh #[cv,za .i64 d.width,nv,tv,ev] 25)):=ax;have cI:=hs.below aD;clear aD;obtain⟨⟨ca,cc,rfl,cm,cx⟩,⟨na,nc,rfl,nm,nx⟩,⟨ta,tc,rfl,tm,tx⟩,⟨ea,ec,rfl,em,ex⟩⟩:=hs;clear cx nx tx ex;have hw:=Ou g1;have hmul:(d.tag.length:Int)*d.width<=4000*256:=wU (by omega) (by omega) (by omega) (by omega);have Nz:0<=(d.tag.length:Int)*d.width:=Bm (by omega) (by omega);have H:zc (dH d=false):=by show _=_;rw[Ld];simp[h]
 have b4:((d.fin.length:Int) != d.tag.length)=true:=by simp;omega
 clear h
 go_enter func23,ntmps23
 go_wp2_with fail
 refine(If _ d.ai _ _ cI.ai).mono ?_;rintro e w' ⟨rfl,rfl⟩;rw[g1];go_wp2;go_ret;exact⟨cU H.out.symm,ax⟩
theorem zld(cv nv tv ev:ze)(d:aL)(w:zd)(hs:dP lo w cv nv tv ev d)(g1:l9 d.ai d.width=true)(t1:¬(d.tag.length:Int)<1)(t2:¬4000<(d.tag.length:Int))(g4:d.fin.length=d.tag.length)(h:¬(d.next.length:Int)=d.tag.length*d.width):
  zf prog 23 #[zg #[cv,za .i64 d.width,nv,tv,ev]] w λe w'=>e=.returned (.bool (dH d))/\zb w.heap.size w w':=by
 have aD:zb w.heap.size w (w.alloc (zh #[cv,za .i64 d.width,nv,tv,ev] 25)):=ax;have cI:=hs.below aD;clear aD;obtain⟨⟨ca,cc,rfl,cm,cx⟩,⟨na,nc,rfl,nm,nx⟩,⟨ta,tc,rfl,tm,tx⟩,⟨ea,ec,rfl,em,ex⟩⟩:=hs;clear cx nx tx ex;have hw:=Ou g1;have hmul:(d.tag.length:Int)*d.width<=4000*256:=wU (by omega) (by omega) (by omega) (by omega);have Nz:0<=(d.tag.length:Int)*d.width:=Bm (by omega) (by omega);have H:zc (dH d=false):=by show _=_;rw[Ld];simp[h]
 have b4:((d.fin.length:Int) != d.tag.length)=false:=by simp[g4]
 clear g4;have b5:((d.next.length:Int) != d.tag.length*d.width)=true:=by simp[h]
 clear h
 go_enter func23,ntmps23
 go_wp2_with fail
 refine(If _ d.ai _ _ cI.ai).mono ?_;rintro e w' ⟨rfl,rfl⟩;rw[g1];go_wp2;go_ret;exact⟨cU H.out.symm,ax⟩
theorem zmU(cv nv tv ev:ze)(d:aL)(w:zd)(hs:dP lo w cv nv tv ev d)(g1:l9 d.ai d.width=true)(t1:¬(d.tag.length:Int)<1)(t2:¬4000<(d.tag.length:Int))(g4:d.fin.length=d.tag.length)(g5:(d.next.length:Int)=d.tag.length*d.width):
  zf prog 23 #[zg #[cv,za .i64 d.width,nv,tv,ev]] w λe w'=>e=.returned (.bool (dH d))/\zb w.heap.size w w':=by
 have aD:zb w.heap.size w (w.alloc (zh #[cv,za .i64 d.width,nv,tv,ev] 25)):=ax;have cI:=hs.below aD;clear aD;obtain⟨⟨ca,cc,rfl,cm,cx⟩,⟨na,nc,rfl,nm,nx⟩,⟨ta,tc,rfl,tm,tx⟩,⟨ea,ec,rfl,em,ex⟩⟩:=hs;clear cx nx tx ex;have hw:=Ou g1;have hmul:(d.tag.length:Int)*d.width<=4000*256:=wU (by omega) (by omega) (by omega) (by omega);have Nz:0<=(d.tag.length:Int)*d.width:=Bm (by omega) (by omega);have H:zc (dH d=(cd 0 (d.tag.length-1) d.next&&cd (-1) 99 d.tag&&cd (-1) 99 d.fin)):=by
  show _=_;have e2:aG d.tag.length 1 4000=true:=by simp[aG];omega
  rw[Ld];simp[g1,g4,g5,e2]
 have b4:((d.fin.length:Int) != d.tag.length)=false:=by simp[g4]
 clear g4;have b5:((d.next.length:Int) != d.tag.length*d.width)=false:=by simp[g5]
 clear g5
 go_enter func23,ntmps23
 go_wp2_with fail
 refine(If _ d.ai _ _ cI.ai).mono ?_;rintro e w' ⟨rfl,rfl⟩;rw[g1]
 go_wp2_with fail
 refine(Ir _ _ _ d.next _ cI.next).mono ?_;rintro e w' ⟨rfl,rfl⟩;cases g7:cd 0 (d.tag.length-1) d.next
 case false=>
  rw[g7]at H;go_wp2;go_ret;exact⟨cU (by rw[H.out];simp),ax⟩
 rw[g7]at H
 go_wp2_with fail
 refine(S6 _ d.tag _ cI.tag).mono ?_;rintro e w' ⟨rfl,rfl⟩;cases g8:cd (-1) 99 d.tag
 case false=>
  rw[g8]at H;go_wp2;go_ret;exact⟨cU (by rw[H.out];simp),ax⟩
 rw[g8]at H
 go_wp2_with fail
 refine(S6 _ d.fin _ cI.fin).mono ?_;rintro e w' ⟨rfl,rfl⟩;go_wp2;go_ret;exact⟨cU (by rw[H.out];simp),ax⟩
theorem zgt(cv nv tv ev:ze)(d:aL)(w:zd)(hs:dP lo w cv nv tv ev d)(_:zS d):
  zf prog 23 #[zg #[cv,za .i64 d.width,nv,tv,ev]] w λe w'=>e=.returned (.bool (dH d))/\zb w.heap.size w w':=by
 cases g1:l9 d.ai d.width
 case false=>exact zk9 cv nv tv ev d w hs g1
 by_cases t1:(d.tag.length:Int)<1
 case pos=>exact zla cv nv tv ev d w hs g1 t1
 by_cases t2:4000<(d.tag.length:Int)
 case pos=>exact zlb cv nv tv ev d w hs g1 t1 t2
 by_cases g4:d.fin.length=d.tag.length
 case neg=>exact zlc cv nv tv ev d w hs g1 t1 t2 g4
 by_cases g5:(d.next.length:Int)=d.tag.length*d.width
 case neg=>exact zld cv nv tv ev d w hs g1 t1 t2 g4 g5
 exact zmU cv nv tv ev d w hs g1 t1 t2 g4 g5
end
section
variable {d:aL}
def Dj(d:aL)(c:Nat):Int:=d.ai.getD c 0
def ztI(d:aL)(k:Nat):Int:=d.next.getD k 0
def Pn(d:aL)(s:Int)(c:Nat):Int:=ztI d (s*d.width+Dj d c).toNat
structure eI(d:aL):Prop where
 cl:d.ai.length=256
 w1:1<=d.width
 w2:d.width<=256
 n1:1<=(d.tag.length:Int)
 n2:(d.tag.length:Int)<=4000
 fl:d.fin.length=d.tag.length
 nl:(d.next.length:Int)=d.tag.length*d.width
 cs:cd 0 (d.width-1) d.ai=true
 ns:cd 0 (d.tag.length-1) d.next=true
 ts:cd (-1) 99 d.tag=true
 es:cd (-1) 99 d.fin=true
theorem C6(h:dH d=true):eI d:=by
 simp only[dH,fI,lZ,kK]at h;obtain⟨⟨⟨⟨⟨⟨⟨⟨a,b⟩,c⟩,e⟩,f⟩,g⟩,i⟩,j⟩,k⟩:=h;exact⟨a,b.1,b.2,c.1,c.2,e,f,g,i,j,k⟩
theorem eI.idx(h:eI d){s:Int}{c:Nat}(h0:0<=s)(h1:s<d.tag.length)(hc:c<256):
  0<=Dj d c/\Dj d c<d.width/\0<=s*d.width/\s*d.width<=1024000/\s*d.width+Dj d c<d.next.length:=by
 have k:=ju h.cs (k:=c) (by have:=h.cl;omega);have a:=h.w1;have b:=h.w2;have n:=h.nl;have n2:=h.n2;have m0:0<=s*d.width:=Bm h0 (by omega);have m1:s*d.width<=4000*256:=wU (by omega) b (by omega) (by omega);have m2:(s+1)*d.width<=d.tag.length*d.width:=Int.mul_le_mul_of_nonneg_right (by omega) (by omega);rw[Int.add_mul]at m2;unfold Dj;exact⟨k.1,by omega,m0,by omega,by omega⟩
end
section
attribute [local go_sem ↓] wp_at_zero wp_at_succ
section
variable {lo:Nat}
theorem dP.cells{w:zd}{cv nv tv ev:ze}{d:aL}(hs:dP lo w cv nv tv ev d)(hf:eI d){s:Int}{c:Nat}(h0:0<=s)(h1:s<d.tag.length)(hc:c<256):
  ∃(cb co cc nb no nc:Nat),cv=.slice (some ⟨cb,co,none⟩) d.ai.length cc/\nv=.slice (some ⟨nb,no,none⟩) d.next.length nc/\d.next.length<=9223372036854775807/\cb<w.heap.size/\nb<w.heap.size/\
   w.cell? ⟨cb,co+c,none⟩=some (za .i64 (Dj d c))/\w.cell? ⟨nb,no+(s*d.width+Dj d c).toNat,none⟩=some (za .i64 (Pn d s c)):=by
 obtain⟨⟨ca,cc,rfl,cm,cx⟩,⟨na,nc,rfl,nm,nx⟩,-,-⟩:=hs;obtain⟨a,b,e,f,g⟩:=hf.idx h0 h1 hc;obtain⟨cb,co,rfl,_,cl,cq⟩:=cx (by rw[hf.cl];omega);obtain⟨nb,no,rfl,_,nl,nq⟩:=nx (by omega);exact⟨cb,co,cc,nb,no,nc,rfl,rfl,nm,cl,nl,cq c (by rw[hf.cl];omega),nq _ (by omega)⟩
theorem zum(cv nv tv ev:ze)(d:aL)(s:Int)(c:Nat)(w:zd)(hs:dP lo w cv nv tv ev d)(hf:eI d)(h0:0<=s)(h1:s<d.tag.length)(hc:c<256):
  zf prog 75 #[zg #[cv,za .i64 d.width,nv,tv,ev],za .i64 s,za .i64 c] w λe w'=>e=.returned (za .i64 (Pn d s c))/\zb w.heap.size w w':=by
 obtain⟨cb,co,cc,nb,no,nc,rfl,rfl,nm,cl,nl,c0,c1⟩:=hs.cells hf h0 h1 hc;obtain⟨a,b,e,f,g⟩:=hf.idx h0 h1 hc;have aV:=hf.cl;rw[aV];have w1:=hf.w1;have w2:=hf.w2;have kA:=hf.n2;clear hs;generalize Dj d c=x at *;generalize Pn d s c=y at *;have hcc:(c:Int)<256:=by omega
 have lM:0<=s*d.width+x:=by omega
 have kC:s*d.width+x<=2000000:=by omega
 go_enter func75,ntmps75
 go_wp2
 go_quiet (fail)
 go_wp2;go_ret;exact⟨rfl,below_drewN (ax) _⟩
end
section
variable {st:Nat -> Nat -> Nat}{s t x:Nat}{os l m:List Nat}
def runN(st:Nat->Nat->Nat)(s:Nat)(l:List Nat):Nat:=l.foldl st s
def fg(st:Nat->Nat->Nat)(an:Nat->Int×Int)(s t:Nat):Prop:=∀l:List Nat,(∀c∈l,c<256)->an (runN st s l)=an (runN st t l)
noncomputable instance zCG (st:Nat->Nat->Nat) (an:Nat->Int×Int) (s t:Nat):Decidable (fg st an s t):=Classical.propDecidable _
theorem fg.refl(st:Nat->Nat->Nat)(an:Nat->Int×Int)(s:Nat):fg st an s s:=λ_ _=>rfl
theorem fg.symm{an:Nat->Int×Int}(h:fg st an s t):fg st an t s:=λl hl=>(h l hl).symm
theorem fg.trans{an:Nat->Int×Int}{u:Nat}(h:fg st an s t)(k:fg st an t u):fg st an s u:=λl hl=>(h l hl).trans (k l hl)
theorem fg.an{an:Nat->Int×Int}(h:fg st an s t):an s=an t:=h [] (by simp)
theorem fg.step{an:Nat->Int×Int}(h:fg st an s t){c:Nat}(hc:c<256):fg st an (st s c) (st t c):=λl hl=>h (c::l) (by
 intro x hx;rcases pD.1 hx with rfl|hx
 ·exact hc
 ·exact hl x hx)
theorem zr6{an:Nat->Int×Int}(R:Nat->Nat->Prop)(h1:∀s t,R s t->an s=an t)(h2:∀s t c,R s t->c<256->R (st s c) (st t c)){s t:Nat}(h:R s t):fg st an s t:=by
 intro l
 induction l generalizing s t with
 |nil=>intro _;exact h1 s t h
 |cons c l ih=>intro hl;exact ih (h2 s t c h (hl c (by simp))) (λx hx=>hl x (by simp[hx]))
noncomputable def nM (st:Nat->Nat->Nat) (an:Nat->Int×Int) (os:List Nat) (x:Nat):Nat:=
 os.findIdx λo=>decide (fg st an o x)
theorem zmT(st:Nat->Nat->Nat)(an:Nat->Int×Int)(os:List Nat)(x:Nat):nM st an os x<=os.length:=LG
theorem zqA{an:Nat->Int×Int}:nM st an os x<os.length↔∃o∈os,fg st an o x:=by
 unfold nM;rw[List.findIdx_lt_length];constructor
 ·rintro ⟨o,h1,h2⟩;exact⟨o,h1,of_decide_eq_true h2⟩
 ·rintro ⟨o,h1,h2⟩;exact⟨o,h1,decide_eq_true h2⟩
theorem znL{an:Nat->Int×Int}{y:Nat}(h:¬nM st an os x<os.length):nM st an (os++[y]) x=if fg st an y x then os.length else os.length+1:=by
 have hl:=zmT st an os x;unfold nM at h hl ⊢;rw[List.findIdx_append,ab h,List.findIdx_singleton]
 by_cases e:fg st an y x
 ·rw[af e,af (decide_eq_true e)];omega
 ·rw[ab e,ab (by simpa using e)];omega
inductive sQ (st:Nat->Nat->Nat) (an:Nat->Int×Int):List Nat->List Nat->Prop
 |nil:sQ st an [] []
 |cons {s t:Nat} {l m:List Nat}:fg st an s t->sQ st an l m->sQ st an (s::l) (t::m)
theorem sQ.length{an:Nat->Int×Int}(h:sQ st an l m):l.length=m.length:=by
 induction h with
 |nil=>rfl
 |cons _ _ ih=>simp[ih]
theorem sQ.snoc{an:Nat->Int×Int}(h:sQ st an l m){s t:Nat}(hs:fg st an s t):sQ st an (l++[s]) (m++[t]):=by
 induction h with
 |nil=>exact .cons hs .nil
 |cons k _ ih=>exact .cons k ih
theorem sQ.at{an:Nat->Int×Int}(h:sQ st an l m):∀k,k<l.length->fg st an (l.getD k 0) (m.getD k 0):=by
 induction h with
 |nil=>intro k hk;exact absurd hk (fw _)
 |cons e _ ih=>
  intro k hk;cases k with
  |zero=>exact e
  |succ k=>exact ih k (by simpa using hk)
theorem sQ.idx{an:Nat->Int×Int}(h:sQ st an l m){x y:Nat}(uQ:fg st an x y):nM st an l x=nM st an m y:=by
 induction h with
 |nil=>rfl
 | @cons s t l m e _ ih=>
  unfold nM at ih ⊢;rw[List.findIdx_cons,List.findIdx_cons,ih];have:decide (fg st an s x)=decide (fg st an t y):=by
   rw[decide_eq_decide];exact⟨λk=>e.symm.trans (k.trans uQ),λk=>e.trans (k.trans uQ.symm)⟩
  rw[this]
noncomputable def vH (st:Nat->Nat->Nat) (an:Nat->Int×Int) (os:List Nat) (x:Nat):List Nat:=if nM st an os x<os.length then os else os++[x]
noncomputable def eX (st:Nat->Nat->Nat) (an:Nat->Int×Int):Nat->Nat->List Nat
 |0,0=>[0]
 |k+1,0=>eX st an k 256
 |k,c+1=>vH st an (eX st an k c) (st ((eX st an k c).getD k 0) c)
theorem La(st:Nat->Nat->Nat)(an:Nat->Int×Int)(k c:Nat):eX st an k (c+1)=vH st an (eX st an k c) (st ((eX st an k c).getD k 0) c):=by rw[eX]
theorem Tx(st:Nat->Nat->Nat)(an:Nat->Int×Int)(k:Nat):eX st an (k+1) 0=eX st an k 256:=by rw[eX]
theorem Z6(st:Nat->Nat->Nat)(an:Nat->Int×Int):eX st an 0 0=[0]:=by rw[eX]
theorem zr4(st:Nat->Nat->Nat)(an:Nat->Int×Int)(os:List Nat)(x:Nat):∃t,vH st an os x=os++t:=by
 unfold vH;split
 ·exact⟨[],by simp⟩
 ·exact⟨[x],rfl⟩
theorem zns(st:Nat->Nat->Nat)(an:Nat->Int×Int)(os:List Nat)(x:Nat):nM st an (vH st an os x) x=nM st an os x/\nM st an (vH st an os x) x<(vH st an os x).length:=by
 unfold vH;split
 ·rename_i h;exact⟨rfl,h⟩
 ·rename_i h
  have:=zmT st an os x;rw[znL h,af (fg.refl _ _ _)];exact⟨by omega,by simp⟩
theorem ZF(st:Nat->Nat->Nat)(an:Nat->Int×Int)(k:Nat):∀c d,c<=d->∃t,eX st an k d=eX st an k c++t
 |c,0,h=>⟨[],by rw[show c=0 by omega];simp⟩
 |c,d+1,h=>by
  by_cases e:c=d+1
  ·subst e;exact⟨[],by simp⟩
  ·obtain⟨t,ht⟩:=ZF st an k c d (by omega);obtain⟨t2,xS⟩:=zr4 st an (eX st an k d) (st ((eX st an k d).getD k 0) d);exact⟨t++t2,by rw[La,xS,ht,gJ]⟩
theorem Tw(st:Nat->Nat->Nat)(an:Nat->Int×Int):∀j k,j<=k->∃t,eX st an k 0=eX st an j 0++t
 |j,0,h=>⟨[],by rw[show j=0 by omega];simp⟩
 |j,k+1,h=>by
  by_cases e:j=k+1
  ·subst e;exact⟨[],by simp⟩
  ·obtain⟨t,ht⟩:=Tw st an j k (by omega);obtain⟨t2,xS⟩:=ZF st an k 0 256 (by omega);exact⟨t++t2,by rw[Tx,xS,ht,gJ]⟩
end
end
end Go.Proofs.YtfajjdgkiilhfaaGreatDoor
