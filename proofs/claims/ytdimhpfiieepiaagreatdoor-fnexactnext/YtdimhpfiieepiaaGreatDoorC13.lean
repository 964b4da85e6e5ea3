import Derived.Test.YtdimhpfiieepiaaGreatDoorC12
import Derived.Deep.RegionHeld3
import Derived.Deep.DrawnRows
import Derived.Deep.QuietTactic
import Derived.BigQuiet
namespace Go.Proofs.YtdimhpfiieepiaaGreatDoor
open Proofs.Tryz
open Value renaming int->za,agg->zc
open RowKit renaming Hid->zb,Below->zd
open Option renaming some->ze,none->zf
open Go renaming World->zg,Calls->zh,Value->zi
set_option maxHeartbeats 4000000
set_option maxRecDepth 100000
open Go.RowKit
theorem zn1{lo:Nat}(cv bv fv tv ev nv kv:zi)(d:bG)(left:Int)(w:zg)(hs:eN lo w cv bv fv tv ev nv kv d)(h0:0<=left)(h1:left<=1048576):
  zh prog 27 #[zc #[cv,za .i64 d.width,bv,fv,tv,ev,nv,kv],za .i64 left] w λe w'=>e=.returned (za .i64 (kJ d.lists left))/\zd w.heap.size w w':=by
 obtain⟨⟨a0,p0,rfl,m0,_⟩,⟨a1,p1,rfl,m1,_⟩,⟨a2,p2,rfl,m2,_⟩,⟨a3,p3,rfl,m3,_⟩,⟨a4,p4,rfl,m4,_⟩,⟨a5,p5,rfl,m5,_⟩,⟨a6,p6,rfl,m6,_⟩⟩:=hs;have H:zb (kJ d.lists left=kJ [d.ci,d.base,d.bQ,d.tag,d.fin,d.next,d.a8] left):=rfl
 go_enter func27,ntmps27
 go_wp2_with fail
 refine(EX _ _ _ _ _ (by omega) (by omega) m0).mono ?_;rintro e w' ⟨rfl,rfl⟩;have b0:=C4 d.ci left (by omega)
 by_cases g0:iP d.ci left<0
 ·have H2:zb (kJ d.lists left=-1):=H.out.trans (E9 g0);clear H;go_wp2;go_ret;exact⟨eX H2.out.symm,au⟩
 replace H:zb _:=H.out.trans (Ff g0);generalize iP d.ci left=l1 at *
 go_wp2_with fail
 refine(EX _ _ _ _ _ (by omega) (by omega) m1).mono ?_;rintro e w' ⟨rfl,rfl⟩;have b1:=C4 d.base l1 (by omega)
 by_cases g1:iP d.base l1<0
 ·have H2:zb (kJ d.lists left=-1):=H.out.trans (E9 g1);clear H;go_wp2;go_ret;exact⟨eX H2.out.symm,au⟩
 replace H:zb _:=H.out.trans (Ff g1);generalize iP d.base l1=l2 at *
 go_wp2_with fail
 refine(EX _ _ _ _ _ (by omega) (by omega) m2).mono ?_;rintro e w' ⟨rfl,rfl⟩;have b2:=C4 d.bQ l2 (by omega)
 by_cases g2:iP d.bQ l2<0
 ·have H2:zb (kJ d.lists left=-1):=H.out.trans (E9 g2);clear H;go_wp2;go_ret;exact⟨eX H2.out.symm,au⟩
 replace H:zb _:=H.out.trans (Ff g2);generalize iP d.bQ l2=l3 at *
 go_wp2_with fail
 refine(EX _ _ _ _ _ (by omega) (by omega) m3).mono ?_;rintro e w' ⟨rfl,rfl⟩;have b3:=C4 d.tag l3 (by omega)
 by_cases g3:iP d.tag l3<0
 ·have H2:zb (kJ d.lists left=-1):=H.out.trans (E9 g3);clear H;go_wp2;go_ret;exact⟨eX H2.out.symm,au⟩
 replace H:zb _:=H.out.trans (Ff g3);generalize iP d.tag l3=l4 at *
 go_wp2_with fail
 refine(EX _ _ _ _ _ (by omega) (by omega) m4).mono ?_;rintro e w' ⟨rfl,rfl⟩;have b4:=C4 d.fin l4 (by omega)
 by_cases g4:iP d.fin l4<0
 ·have H2:zb (kJ d.lists left=-1):=H.out.trans (E9 g4);clear H;go_wp2;go_ret;exact⟨eX H2.out.symm,au⟩
 replace H:zb _:=H.out.trans (Ff g4);generalize iP d.fin l4=l5 at *
 go_wp2_with fail
 refine(EX _ _ _ _ _ (by omega) (by omega) m5).mono ?_;rintro e w' ⟨rfl,rfl⟩;have b5:=C4 d.next l5 (by omega)
 by_cases g5:iP d.next l5<0
 ·have H2:zb (kJ d.lists left=-1):=H.out.trans (E9 g5);clear H;go_wp2;go_ret;exact⟨eX H2.out.symm,au⟩
 replace H:zb _:=H.out.trans (Ff g5);generalize iP d.next l5=l6 at *
 go_wp2_with fail
 refine(EX _ _ _ _ _ (by omega) (by omega) m6).mono ?_;rintro e w' ⟨rfl,rfl⟩;have b6:=C4 d.a8 l6 (by omega)
 by_cases g6:iP d.a8 l6<0
 ·have H2:zb (kJ d.lists left=-1):=H.out.trans (E9 g6);clear H;go_wp2;go_ret;exact⟨eX H2.out.symm,au⟩
 replace H:zb _:=H.out.trans (Ff g6);generalize iP d.a8 l6=l7 at *;go_wp2;go_ret;exact⟨eX H.out.symm,au⟩
section
variable {lo:Nat}
def vd:List Int->List Int->Bool
 |k::ks,n::ns=>(!(k == -1&&n != 0))&&vd ks ns
 |_,_=>true
theorem zhV(ks ns:List Int)(k:Nat)(hk:k<ks.length)(hn:k<ns.length)(x y:Int)(hx:ks.getD k 0=x)(hy:ns.getD k 0=y):vd (ks.drop k) (ns.drop k)=((!(x == -1&&y != 0))&&vd (ks.drop (k+1)) (ns.drop (k+1))):=by
 rw[oC hk,oC hn];have h1:ks[k]=x:=by rw[<-hx];simp[List.getD,hk]
 have h2:ns[k]=y:=by rw[<-hy];simp[List.getD,hn]
 rw[vd,h1,h2]
theorem zjK(ks ns:List Int)(k:Nat)(hk:ks.length<=k):vd (ks.drop k) (ns.drop k)=true:=by
 rw[sA hk];rfl
def iq(d:bG):Bool:=
 decide (d.ci.length=256)&&cz d.width 1 256&&bO 0 (d.width-1) d.ci&&cz d.base.length 1 4000&&decide (d.bQ.length=d.base.length)&&decide (d.tag.length=d.base.length)&&decide (d.fin.length=d.base.length) &&
 decide (d.next.length=d.a8.length)&&decide (d.next.length<=60000)&&(vd d.a8 d.next&&(bO 0 59999 d.base&&bO 0 (d.base.length-1) d.bQ&&bO (-1) 99 d.tag&&bO (-1) 99 d.fin&&bO (-1) (d.base.length-1) d.a8&&bO 0 (d.base.length-1) d.next))
theorem zi9(cv bv fv tv ev nv kv:zi)(d:bG)(w:zg)(hs:eN lo w cv bv fv tv ev nv kv d)(H:zb (iq d=false))
  (h:((d.ci.length:Int) != 256)=true\/((d.ci.length:Int) != 256)=false/\(cz d.width 1 256=false\/cz d.width 1 256=true/\(bO 0 (d.width-1) d.ci=false\/bO 0 (d.width-1) d.ci=true/\(cz d.base.length 1 4000=false\/cz d.base.length 1 4000=true/\
   (((d.bQ.length:Int) != d.base.length)=true\/((d.bQ.length:Int) != d.base.length)=false/\(((d.tag.length:Int) != d.base.length)=true\/((d.tag.length:Int) != d.base.length)=false/\(((d.fin.length:Int) != d.base.length)=true\/((d.fin.length:Int) != d.base.length)=false/\(((d.next.length:Int) != d.a8.length)=true\/((d.next.length:Int) != d.a8.length)=false/\¬d.next.length<=60000)))))))):
  zh prog 62 #[zc #[cv,za .i64 d.width,bv,fv,tv,ev,nv,kv]] w λe w'=>e=.returned (.bool (iq d))/\zd w.heap.size w w':=by
 have dB:=hs.below ((Below.refl w.heap.size w).alloc (ai _) (.cells #[cv,za .i64 d.width,bv,fv,tv,ev,nv,kv] 39));obtain⟨⟨a0,p0,rfl,m0,y0⟩,⟨a1,p1,rfl,m1,y1⟩,⟨a2,p2,rfl,m2,y2⟩,⟨a3,p3,rfl,m3,y3⟩,⟨a4,p4,rfl,m4,y4⟩,⟨a5,p5,rfl,m5,y5⟩,⟨a6,p6,rfl,m6,y6⟩⟩:=hs;clear y0 y1 y2 y3 y4 y5 y6;rcases h with h|⟨b1,h|⟨g2,h|⟨g3,h|⟨g4,h|⟨b5,h|⟨b6,h|⟨b7,h|⟨b8,h⟩⟩⟩⟩⟩⟩⟩⟩
 all_goals
  try have hw:=IB.1 g2
  try have ht:=IB.1 g4
  go_enter func62,ntmps62
  go_wp2_with (first|(go_at_call 47;refine(tO _ _ _ _).mono ?_;rintro e w' ⟨rfl,rfl⟩)|(go_at_call 63;refine(zr _ _ _ d.ci _ dB.ci).mono ?_;rintro e w' ⟨rfl,rfl⟩))
  go_ret
  exact⟨bF H.out.symm,au⟩
theorem zja(cv bv fv tv ev nv kv:zi)(d:bG)(w:zg)(hs:eN lo w cv bv fv tv ev nv kv d)(g1:d.ci.length=256)(g2:cz d.width 1 256=true)(g3:bO 0 (d.width-1) d.ci=true)(g4:cz d.base.length 1 4000=true)(g5:d.bQ.length=d.base.length)(g6:d.tag.length=d.base.length)(g7:d.fin.length=d.base.length)(g8:d.next.length=d.a8.length)(g9:d.next.length<=60000):
  zh prog 62 #[zc #[cv,za .i64 d.width,bv,fv,tv,ev,nv,kv]] w λe w'=>e=.returned (.bool (iq d))/\zd w.heap.size w w':=by
 have ae:zd w.heap.size w (w.alloc (.cells #[cv,za .i64 d.width,bv,fv,tv,ev,nv,kv] 39)):=au;have dB:=hs.below ae;clear ae;have H:zb (iq d=(vd d.a8 d.next&&(bO 0 59999 d.base&&bO 0 (d.base.length-1) d.bQ&&bO (-1) 99 d.tag&&bO (-1) 99 d.fin&&bO (-1) (d.base.length-1) d.a8&&bO 0 (d.base.length-1) d.next))):=by show _=_;simp[iq,g1,g2,g3,g4,g5,g6,g7,g9,<-g8]
 have b1:((d.ci.length:Int) != 256)=false:=by simp[g1]
 have b5:((d.bQ.length:Int) != d.base.length)=false:=by simp[g5]
 have b6:((d.tag.length:Int) != d.base.length)=false:=by simp[g6]
 have b7:((d.fin.length:Int) != d.base.length)=false:=by simp[g7]
 have b8:((d.next.length:Int) != d.a8.length)=false:=by simp[g8]
 have hlen:d.a8.length=d.next.length:=g8.symm;have Jc:zb (d.a8.length=d.next.length):=hlen;have hw:=IB.1 g2;have ht:=IB.1 g4;clear g1 g5 g6 g7 g8 hlen;have cZ:=hs;obtain⟨⟨a0,p0,rfl,m0,y0⟩,⟨a1,p1,rfl,m1,y1⟩,⟨a2,p2,rfl,m2,y2⟩,⟨a3,p3,rfl,m3,y3⟩,⟨a4,p4,rfl,m4,y4⟩,⟨a5,p5,rfl,m5,y5⟩,⟨a6,p6,rfl,m6,y6⟩⟩:=hs;clear y0 y1 y2 y3 y4;have dY:zd w.heap.size w (w.alloc (.cells #[.slice a0 d.ci.length p0,za .i64 d.width,.slice a1 d.base.length p1,.slice a2 d.bQ.length p2,.slice a3 d.tag.length p3,.slice a4 d.fin.length p4,.slice a5 d.next.length p5,.slice a6 d.a8.length p6] 39)):=au
 go_enter func62,ntmps62
 go_wp2_with (first|(go_at_call 47;refine(tO _ _ _ _).mono ?_;rintro e w' ⟨rfl,rfl⟩)|(go_at_call 63;refine(zr _ _ _ d.ci _ dB.ci).mono ?_;rintro e w' ⟨rfl,rfl⟩))
 go_loop [68] (λi=>∃k:Nat,k<=d.a8.length/\i=za .i64 k/\zb (iq d=(vd (d.a8.drop k) (d.next.drop k)&&(bO 0 59999 d.base&&bO 0 (d.base.length-1) d.bQ&&bO (-1) 99 d.tag&&bO (-1) 99 d.fin&&bO (-1) (d.base.length-1) d.a8&&bO 0 (d.base.length-1) d.next))))
  (λi=>d.a8.length-(intOf i).toNat)
 case atStart=>exact⟨0,aZ _,rfl,H.out⟩
 case round=>
  clear H;obtain⟨k,hk,rfl,HS⟩:=hrel
  by_cases hlt:k<d.a8.length
  ·have oY:k<d.next.length:=by have:=Jc.out;omega
   obtain⟨b,o,x,rfl,Hn,bu,c0⟩:=y6.elem dY hlt;obtain⟨b2,o2,y,rfl,fQ,j8,d0⟩:=y5.elem dY oY;have HD:zb _:=zhV d.a8 d.next k hlt oY x y Hn.out fQ.out
   by_cases hx:x=-1
   ·by_cases hy:y=0
    ·go_wp2
     go_round
     case rel=>exact⟨k+1,by omega,by go_num,by show _=_;rw[HS.out,HD.out];simp[hx,hy]⟩
     case measure=>simp[intOf];omega
    ·go_wp2;go_ret;exact⟨bF (by rw[HS.out,HD.out];simp[hx,hy]),dY⟩
   ·have HE:zb ((!(x == -1&&y != 0))=true):=by show _=_;simp[hx]
    go_wp2
    go_round
    case rel=>exact⟨k+1,by omega,by go_num,by show _=_;rw[HS.out,HD.out,HE.out,kM]⟩
    case measure=>simp[intOf];omega
  ·rw[zjK _ _ k (by omega),kM]at HS;clear y5 y6 g2 g3 g4 g9 b1 b5 b6 b7 b8
   go_wp2_with fail
   refine(zr _ _ _ d.base _ dB.base).mono ?_;rintro e w' ⟨rfl,rfl⟩;cases q0:bO 0 59999 d.base
   case false=>
    rw[q0]at HS;go_wp2;go_ret;exact⟨bF (by rw[HS.out];simp),dY⟩
   rw[q0]at HS
   go_wp2_with fail
   refine(zr _ _ _ d.bQ _ dB.bQ).mono ?_;rintro e w' ⟨rfl,rfl⟩;cases q1:bO 0 (d.base.length-1) d.bQ
   case false=>
    rw[q1]at HS;go_wp2;go_ret;exact⟨bF (by rw[HS.out];simp),dY⟩
   rw[q1]at HS
   go_wp2_with fail
   refine(zr _ _ _ d.tag _ dB.tag).mono ?_;rintro e w' ⟨rfl,rfl⟩;cases q2:bO (-1) 99 d.tag
   case false=>
    rw[q2]at HS;go_wp2;go_ret;exact⟨bF (by rw[HS.out];simp),dY⟩
   rw[q2]at HS
   go_wp2_with fail
   refine(zr _ _ _ d.fin _ dB.fin).mono ?_;rintro e w' ⟨rfl,rfl⟩;cases q3:bO (-1) 99 d.fin
   case false=>
    rw[q3]at HS;go_wp2;go_ret;exact⟨bF (by rw[HS.out];simp),dY⟩
   rw[q3]at HS
   go_wp2_with fail
   refine(zr _ _ _ d.a8 _ dB.a8).mono ?_;rintro e w' ⟨rfl,rfl⟩;cases q4:bO (-1) (d.base.length-1) d.a8
   case false=>
    rw[q4]at HS;go_wp2;go_ret;exact⟨bF (by rw[HS.out];simp),dY⟩
   rw[q4]at HS
   go_wp2_with fail
   refine(zr _ _ _ d.next _ dB.next).mono ?_;rintro e w' ⟨rfl,rfl⟩;go_wp2;go_ret;exact⟨bF (by rw[HS.out];simp),dY⟩
theorem zhJ(cv bv fv tv ev nv kv:zi)(d:bG)(w:zg)(hs:eN lo w cv bv fv tv ev nv kv d):
  zh prog 62 #[zc #[cv,za .i64 d.width,bv,fv,tv,ev,nv,kv]] w λe w'=>e=.returned (.bool (iq d))/\zd w.heap.size w w':=by
 have N:=zi9 cv bv fv tv ev nv kv d w hs
 by_cases g1:d.ci.length=256
 case neg=>exact N (by show _=_;simp[iq,g1]) (.inl (by simp;omega))
 have b1:((d.ci.length:Int) != 256)=false:=by simp[g1]
 cases g2:cz d.width 1 256
 case false=>exact N (by show _=_;simp[iq,g2]) (.inr ⟨b1,.inl g2⟩)
 cases g3:bO 0 (d.width-1) d.ci
 case false=>exact N (by show _=_;simp[iq,g3]) (.inr ⟨b1,.inr ⟨g2,.inl g3⟩⟩)
 cases g4:cz d.base.length 1 4000
 case false=>exact N (by show _=_;simp[iq,g4]) (.inr ⟨b1,.inr ⟨g2,.inr ⟨g3,.inl g4⟩⟩⟩)
 have n1:=λh H=>N H (.inr ⟨b1,.inr ⟨g2,.inr ⟨g3,.inr ⟨g4,h⟩⟩⟩⟩)
 clear N
 by_cases g5:d.bQ.length=d.base.length
 case neg=>exact n1 (.inl (by simp;omega)) (by show _=_;simp[iq,g5])
 have b5:((d.bQ.length:Int) != d.base.length)=false:=by simp[g5]
 by_cases g6:d.tag.length=d.base.length
 case neg=>exact n1 (.inr ⟨b5,.inl (by simp;omega)⟩) (by show _=_;simp[iq,g6])
 have b6:((d.tag.length:Int) != d.base.length)=false:=by simp[g6]
 by_cases g7:d.fin.length=d.base.length
 case neg=>exact n1 (.inr ⟨b5,.inr ⟨b6,.inl (by simp;omega)⟩⟩) (by show _=_;simp[iq,g7])
 have b7:((d.fin.length:Int) != d.base.length)=false:=by simp[g7]
 by_cases g8:d.next.length=d.a8.length
 case neg=>exact n1 (.inr ⟨b5,.inr ⟨b6,.inr ⟨b7,.inl (by simp;omega)⟩⟩⟩) (by show _=_;simp[iq,g8])
 by_cases g9:d.next.length<=60000
 case neg=>exact n1 (.inr ⟨b5,.inr ⟨b6,.inr ⟨b7,.inr ⟨by simp[g8],g9⟩⟩⟩⟩) (by show _=_;simp[iq,g9])
 exact zja cv bv fv tv ev nv kv d w hs g1 g2 g3 g4 g5 g6 g7 g8 g9
end
section
variable {d:bG}{lo:Nat}
attribute [local go_sem ↓] wp_at_zero wp_at_succ
def iw(d:bG)(s:Nat):Int:=d.base.getD s 0
def iy(d:bG)(c:Nat):Int:=d.ci.getD c 0
def vl(d:bG)(k:Nat):Int:=d.a8.getD k 0
def De(d:bG)(k:Nat):Int:=d.next.getD k 0
def pw(d:bG)(s:Nat):Int:=d.bQ.getD s 0
def fA(d:bG)(s c:Nat):Nat:=(iw d s+iy d c).toNat
def iQ(d:bG)(s c:Nat):Int:=if fA d s c<d.a8.length/\vl d (fA d s c)=s then De d (fA d s c) else pw d s
structure rZ(d:bG):Prop where
 cl:d.ci.length=256
 w1:1<=d.width
 w2:d.width<=256
 cs:bO 0 (d.width-1) d.ci=true
 n1:1<=(d.base.length:Int)
 n2:(d.base.length:Int)<=4000
 dl:d.bQ.length=d.base.length
 tl:d.tag.length=d.base.length
 el:d.fin.length=d.base.length
 nk:d.next.length=d.a8.length
 nm:d.next.length<=60000
 fr:vd d.a8 d.next=true
 bs:bO 0 59999 d.base=true
 ds:bO 0 (d.base.length-1) d.bQ=true
 ts:bO (-1) 99 d.tag=true
 es:bO (-1) 99 d.fin=true
 ks:bO (-1) (d.base.length-1) d.a8=true
 ns:bO 0 (d.base.length-1) d.next=true
theorem zqe(h:iq d=true):rZ d:=by
 simp only[iq,dE,oD,IB]at h;obtain⟨⟨⟨⟨⟨⟨⟨⟨⟨a,b⟩,c⟩,e⟩,f⟩,g⟩,i⟩,j⟩,k⟩,l,⟨⟨⟨⟨m,n⟩,o⟩,p⟩,q⟩,r⟩:=h;exact⟨a,b.1,b.2,c,e.1,e.2,f,g,i,j,k,l,m,n,o,p,q,r⟩
theorem rZ.bd(h:rZ d){s c:Nat}(hs:s<d.base.length)(hc:c<256):
  0<=iw d s/\iw d s<=59999/\0<=iy d c/\iy d c<=255/\((fA d s c:Nat):Int)=iw d s+iy d c:=by
 have a:=Im h.bs (k:=s) hs;have b:=Im h.cs (k:=c) (by rw[h.cl];exact hc);have w2:=h.w2;unfold fA iw iy;omega
theorem zrc(cv bv fv tv ev nv kv:zi)(d:bG)(s c:Nat)(w:zg)(hs:eN lo w cv bv fv tv ev nv kv d)(hf:rZ d)(bX:s<d.base.length)(hc:c<256)(h:¬fA d s c<d.a8.length):
  zh prog 30 #[zc #[cv,za .i64 d.width,bv,fv,tv,ev,nv,kv],za .i64 s,za .i64 c] w λe w'=>e=.returned (za .i64 (iQ d s c))/\zd w.heap.size w w':=by
 obtain⟨⟨a0,p0,rfl,m0,y0⟩,⟨a1,p1,rfl,m1,y1⟩,⟨a2,p2,rfl,m2,y2⟩,⟨a3,p3,rfl,m3,y3⟩,⟨a4,p4,rfl,m4,y4⟩,⟨a5,p5,rfl,m5,y5⟩,⟨a6,p6,rfl,m6,y6⟩⟩:=hs;have ik:=hf.cl;have oZ:=hf.n1;have ky:=hf.n2;have tf:=hf.dl;have Ks:=hf.nk;have kz:=hf.nm;obtain⟨x0,x1,z0,z1,iL⟩:=hf.bd bX hc;obtain⟨cb,co,rfl,_,cl,cq⟩:=y0 (by omega);obtain⟨bb,bo,rfl,_,bl,bq⟩:=y1 (by omega);obtain⟨fb,fo,rfl,_,fl,fq⟩:=y2 (by omega);have c0:w.cell? ⟨cb,co+c,zf⟩=ze (za .i64 (iy d c)):=cq c (by omega);have b0:w.cell? ⟨bb,bo+s,zf⟩=ze (za .i64 (iw d s)):=bq s bX;have f0:w.cell? ⟨fb,fo+s,zf⟩=ze (za .i64 (pw d s)):=fq s (by omega);have i0:(0:Int)<=(s:Int):=by omega
 have i1:(s:Int)<(d.base.length:Int):=by omega
 have i2:(0:Int)<=(c:Int):=by omega
 have i3:(c:Int)<(d.ci.length:Int):=by omega
 have i4:(s:Int)<(d.bQ.length:Int):=by omega
 have H:zb (iQ d s c=pw d s):=by show _=_;unfold iQ;rw[aq (λk=>h k.1)]
 have i5:¬iw d s+iy d c<(d.a8.length:Int):=by omega
 clear y3 y4 y5 y6 cq bq fq iL h;generalize iw d s=x at *;generalize iy d c=y at *;generalize pw d s=z at *
 go_enter func30,ntmps30
 go_wp2
 go_quiet (fail)
 go_wp2;go_ret;exact⟨eX H.out.symm,below_drewN (au) _⟩
theorem znn(cv bv fv tv ev nv kv:zi)(d:bG)(s c:Nat)(w:zg)(hs:eN lo w cv bv fv tv ev nv kv d)(hf:rZ d)(bX:s<d.base.length)(hc:c<256)(h:fA d s c<d.a8.length)(h2:¬vl d (fA d s c)=s):
  zh prog 30 #[zc #[cv,za .i64 d.width,bv,fv,tv,ev,nv,kv],za .i64 s,za .i64 c] w λe w'=>e=.returned (za .i64 (iQ d s c))/\zd w.heap.size w w':=by
 obtain⟨⟨a0,p0,rfl,m0,y0⟩,⟨a1,p1,rfl,m1,y1⟩,⟨a2,p2,rfl,m2,y2⟩,⟨a3,p3,rfl,m3,y3⟩,⟨a4,p4,rfl,m4,y4⟩,⟨a5,p5,rfl,m5,y5⟩,⟨a6,p6,rfl,m6,y6⟩⟩:=hs;have ik:=hf.cl;have oZ:=hf.n1;have ky:=hf.n2;have tf:=hf.dl;have Ks:=hf.nk;have kz:=hf.nm;obtain⟨x0,x1,z0,z1,iL⟩:=hf.bd bX hc;obtain⟨cb,co,rfl,_,cl,cq⟩:=y0 (by omega);obtain⟨bb,bo,rfl,_,bl,bq⟩:=y1 (by omega);obtain⟨fb,fo,rfl,_,fl,fq⟩:=y2 (by omega);have c0:w.cell? ⟨cb,co+c,zf⟩=ze (za .i64 (iy d c)):=cq c (by omega);have b0:w.cell? ⟨bb,bo+s,zf⟩=ze (za .i64 (iw d s)):=bq s bX;have f0:w.cell? ⟨fb,fo+s,zf⟩=ze (za .i64 (pw d s)):=fq s (by omega);have i0:(0:Int)<=(s:Int):=by omega
 have i1:(s:Int)<(d.base.length:Int):=by omega
 have i2:(0:Int)<=(c:Int):=by omega
 have i3:(c:Int)<(d.ci.length:Int):=by omega
 have i4:(s:Int)<(d.bQ.length:Int):=by omega
 obtain⟨kb,ko,rfl,_,kl,kq⟩:=y6 (by omega);have k0:w.cell? ⟨kb,ko+(iw d s+iy d c).toNat,zf⟩=ze (za .i64 (vl d (fA d s c))):=kq (fA d s c) h;have i5:iw d s+iy d c<(d.a8.length:Int):=by omega
 have H:zb (iQ d s c=pw d s):=by show _=_;unfold iQ;rw[aq (λk=>h2 k.2)]
 clear y3 y4 y5 cq bq fq iL h kq;generalize vl d (fA d s c)=q at *;generalize iw d s=x at *;generalize iy d c=y at *;generalize pw d s=z at *
 go_enter func30,ntmps30
 go_wp2
 go_quiet (fail)
 go_wp2;go_ret;exact⟨eX H.out.symm,below_drewN (au) _⟩
theorem zrd(cv bv fv tv ev nv kv:zi)(d:bG)(s c:Nat)(w:zg)(hs:eN lo w cv bv fv tv ev nv kv d)(hf:rZ d)(bX:s<d.base.length)(hc:c<256)(h:fA d s c<d.a8.length)(h2:vl d (fA d s c)=s):
  zh prog 30 #[zc #[cv,za .i64 d.width,bv,fv,tv,ev,nv,kv],za .i64 s,za .i64 c] w λe w'=>e=.returned (za .i64 (iQ d s c))/\zd w.heap.size w w':=by
 obtain⟨⟨a0,p0,rfl,m0,y0⟩,⟨a1,p1,rfl,m1,y1⟩,⟨a2,p2,rfl,m2,y2⟩,⟨a3,p3,rfl,m3,y3⟩,⟨a4,p4,rfl,m4,y4⟩,⟨a5,p5,rfl,m5,y5⟩,⟨a6,p6,rfl,m6,y6⟩⟩:=hs;have ik:=hf.cl;have oZ:=hf.n1;have ky:=hf.n2;have tf:=hf.dl;have Ks:=hf.nk;have kz:=hf.nm;obtain⟨x0,x1,z0,z1,iL⟩:=hf.bd bX hc;obtain⟨cb,co,rfl,_,cl,cq⟩:=y0 (by omega);obtain⟨bb,bo,rfl,_,bl,bq⟩:=y1 (by omega);obtain⟨fb,fo,rfl,_,fl,fq⟩:=y2 (by omega);have c0:w.cell? ⟨cb,co+c,zf⟩=ze (za .i64 (iy d c)):=cq c (by omega);have b0:w.cell? ⟨bb,bo+s,zf⟩=ze (za .i64 (iw d s)):=bq s bX;have f0:w.cell? ⟨fb,fo+s,zf⟩=ze (za .i64 (pw d s)):=fq s (by omega);have i0:(0:Int)<=(s:Int):=by omega
 have i1:(s:Int)<(d.base.length:Int):=by omega
 have i2:(0:Int)<=(c:Int):=by omega
 have i3:(c:Int)<(d.ci.length:Int):=by omega
 have i4:(s:Int)<(d.bQ.length:Int):=by omega
 obtain⟨kb,ko,rfl,_,kl,kq⟩:=y6 (by omega);have k0:w.cell? ⟨kb,ko+(iw d s+iy d c).toNat,zf⟩=ze (za .i64 (vl d (fA d s c))):=kq (fA d s c) h;have i5:iw d s+iy d c<(d.a8.length:Int):=by omega
 obtain⟨nb,no,rfl,_,nl,nq⟩:=y5 (by omega);have n0:w.cell? ⟨nb,no+(iw d s+iy d c).toNat,zf⟩=ze (za .i64 (De d (fA d s c))):=nq (fA d s c) (by omega);have i6:iw d s+iy d c<(d.next.length:Int):=by omega
 have H:zb (iQ d s c=De d (fA d s c)):=by show _=_;unfold iQ;rw[aD ⟨h,h2⟩]
 rw[h2]at k0;clear y3 y4 cq bq fq iL h kq nq h2;generalize De d (fA d s c)=q at *;generalize iw d s=x at *;generalize iy d c=y at *;generalize pw d s=z at *
 go_enter func30,ntmps30
 go_wp2
 go_quiet (fail)
 go_wp2;go_ret;exact⟨eX H.out.symm,below_drewN (au) _⟩
theorem zsO(cv bv fv tv ev nv kv:zi)(d:bG)(s c:Nat)(w:zg)(hs:eN lo w cv bv fv tv ev nv kv d)(hf:rZ d)(bX:s<d.base.length)(hc:c<256):
  zh prog 30 #[zc #[cv,za .i64 d.width,bv,fv,tv,ev,nv,kv],za .i64 s,za .i64 c] w λe w'=>e=.returned (za .i64 (iQ d s c))/\zd w.heap.size w w':=by
 by_cases h:fA d s c<d.a8.length
 ·by_cases h2:vl d (fA d s c)=s
  ·exact zrd cv bv fv tv ev nv kv d s c w hs hf bX hc h h2
  ·exact znn cv bv fv tv ev nv kv d s c w hs hf bX hc h h2
 ·exact zrc cv bv fv tv ev nv kv d s c w hs hf bX hc h
end
attribute [local go_sem ↓] wp_at_zero wp_at_succ
structure eE where
 L:Int
 B:ByteArray
 C:Bool
 S:Int
 N:Int
def eE.zero:eE:=⟨0,⟨#[]⟩,false,0,0⟩
def nC(s:eE):Bool:=cz s.L 1 4096&&decide ((s.B.size:Int)<=s.L)&&cz s.N 0 s.B.size&&cz s.S 0 3999
theorem zkx(s:eE)(left:Int)(w:zg)(h0:0<=left)(h1:left<=1048576)(hB:s.B.size<=9223372036854775807):
  zh prog 6 #[zc #[za .i64 s.L,.string s.B,.bool s.C,za .i64 s.S,za .i64 s.N],za .i64 left] w λe w'=>e=.returned (za .i64 (if left-s.B.size<0 then -1 else left-s.B.size))/\zd w.heap.size w w':=by
 by_cases h:left-s.B.size<0
 ·rw[aD h]
  go_enter func6,ntmps6
  go_wp2;go_ret;exact⟨rfl,au⟩
 ·rw[aq h]
  go_enter func6,ntmps6
  go_wp2;go_ret;exact⟨rfl,au⟩
theorem Vp(s:eE)(w:zg):
  zh prog 9 #[zc #[za .i64 s.L,.string s.B,.bool s.C,za .i64 s.S,za .i64 s.N]] w λe w'=>e=.returned (zc #[za .i64 s.L,.string s.B,.bool s.C,za .i64 s.S,za .i64 s.N])/\zd w.heap.size w w':=by
 go_enter func9,ntmps9
 go_wp2;exact bD (v:=zc #[za .i64 s.L,.string s.B,.bool s.C,za .i64 s.S,za .i64 s.N]) (by simp[results,results9,go_sem]) rfl ⟨rfl,((au).alloc (by simp) _).alloc (by simp;omega) _⟩
theorem U9(s:eE)(w:zg):
  zh prog 11 #[zc #[za .i64 s.L,.string s.B,.bool s.C,za .i64 s.S,za .i64 s.N],zc #[za .i64 s.L,.string s.B,.bool s.C,za .i64 s.S,za .i64 s.N]] w λe w'=>e=.returned (.bool true)/\zd w.heap.size w w':=by
 obtain⟨L,B,C,S,N⟩:=s;dsimp only;have e1:(L != L)=false:=by simp
 have e3:(C != C)=false:=by simp
 have e4:(S != S)=false:=by simp
 have e5:(N != N)=false:=by simp
 go_enter func11,ntmps11
 go_wp2;go_ret;exact⟨rfl,(au).alloc (by simp) _⟩
theorem zev(s:eE)(w:zg):
  zh prog 29 #[zc #[za .i64 s.L,.string s.B,.bool s.C,za .i64 s.S,za .i64 s.N]] w λe w'=>e=.returned (.bool (nC s))/\zd w.heap.size w w':=by
 cases h1:cz s.L 1 4096
 ·have H:zb (nC s=false):=by show _=_;simp[nC,h1]
  go_enter func29,ntmps29
  go_wp2_with (go_at_call 47;refine(tO _ _ _ _).mono ?_;rintro e w' ⟨rfl,rfl⟩)
  go_ret
  exact⟨bF H.out.symm,au⟩
 by_cases h2:(s.B.size:Int)<=s.L
 case neg=>
  have H:zb (nC s=false):=by show _=_;simp[nC,h2]
  go_enter func29,ntmps29
  go_wp2_with (go_at_call 47;refine(tO _ _ _ _).mono ?_;rintro e w' ⟨rfl,rfl⟩)
  go_ret
  exact⟨bF H.out.symm,au⟩
 cases h3:cz s.N 0 s.B.size
 ·have H:zb (nC s=false):=by show _=_;simp[nC,h3]
  go_enter func29,ntmps29
  go_wp2_with (go_at_call 47;refine(tO _ _ _ _).mono ?_;rintro e w' ⟨rfl,rfl⟩)
  go_ret
  exact⟨bF H.out.symm,au⟩
 have H:zb (nC s=cz s.S 0 3999):=by show _=_;simp[nC,h1,h2,h3]
 go_enter func29,ntmps29
 go_wp2_with (go_at_call 47;refine(tO _ _ _ _).mono ?_;rintro e w' ⟨rfl,rfl⟩)
 go_ret
 exact⟨bF H.out.symm,au⟩
end Go.Proofs.YtdimhpfiieepiaaGreatDoor
