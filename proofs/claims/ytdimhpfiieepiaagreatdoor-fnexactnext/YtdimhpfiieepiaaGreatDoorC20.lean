import Derived.Test.YtdimhpfiieepiaaGreatDoorC13
import Derived.Test.YtdimhpfiieepiaaGreatDoorC19
namespace Go.Proofs.YtdimhpfiieepiaaGreatDoor
open Proofs.Tryz
open Value renaming int->za,agg->zi
open RowKit renaming Hid->zb,Below->zc
open Go renaming World->zd,Value->ze,Calls->zg
open Option renaming some->zf,none->zh
set_option maxHeartbeats 1000000
set_option maxRecDepth 100000
section
variable {G a e:Int}{bs:List aW}{t:ByteArray}
theorem zpc{P:Nat->Prop}:∀(n k:Nat),k<=n->P k->∃j,j<=k/\P j/\∀i,i<j->¬P i
 |0,k,h,hp=>⟨k,ai _,hp,λi hi=>by omega⟩
 |n+1,k,h,hp=>by
  by_cases he:∃i,i<k/\P i
  ·obtain⟨i,h1,h2⟩:=he;obtain⟨j,a,b,c⟩:=zpc n i (by omega) h2;exact⟨j,by omega,b,c⟩
  ·exact⟨k,ai _,hp,λi hi hq=>he ⟨i,hi,hq⟩⟩
theorem zmF(h:nD G bs t a e=true){k:Nat}(hk:k<bs.length):jW (bs.getD k .zero).nodes=true/\(bs.getD k .zero).nodes.all aX=true:=by
 unfold nD gD at h;simp only[dE,oD]at h;obtain⟨⟨⟨⟨⟨⟨⟨-,-⟩,-⟩,db⟩,-⟩,-⟩,-⟩,-⟩:=h;have yV:bs.getD k .zero∈bs:=by rw[cL,eY hk];exact oz _
 have im:=jl.1 db _ yV;simp only[dE]at im;exact im
theorem zta(h:nD G bs t a e=true):t.size<=4096/\0<=a/\a<=e/\e<=t.size:=by
 unfold nD at h;simp only[dE,oD]at h;exact h.2
theorem zok(G:Int)(bs:List aW)(t:ByteArray)(a e:Int)(cl:Bool):∃r,Bx G bs t a e cl r:=by
 by_cases h:sj G bs t a e cl
 ·obtain⟨h1,k0,h2,h3⟩:=h;obtain⟨k,hk,hb,hf⟩:=zpc (P:=λk=>iu (bs.getD k .zero) t a.toNat e.toNat cl) k0 k0 (ai _) h3;obtain⟨b1,b2,b3,b4⟩:=zta h1;obtain⟨s1,s2⟩:=zmF h1 (k:=k) (by omega);obtain⟨p1,p2⟩:=O8 _ s1;have ho:=(WD (bs.getD k .zero).nodes p2 s2 ((bs.getD k .zero).nodes.length-1) (by omega)).1;have nh:t.data.toList.length=t.size:=by simp
  obtain⟨l,hl⟩:=xO (u:=t.data.toList) _ ho a.toNat e.toNat ⟨by omega,by omega,hb.2⟩;exact⟨_,.inr ⟨h1,k,by omega,hf,hb,l,hl,rfl⟩⟩
 ·exact⟨[],.inl ⟨h,rfl⟩⟩
theorem zqI{cl:Bool}{r:List (Int×Int)}(h:Bx G bs t a e cl r):r.length<=501:=by
 rcases h with ⟨-,rfl⟩|⟨h1,k,-,-,-,l,-,rfl⟩
 ·simp
 ·unfold nD gD at h1;simp only[dE,oD]at h1;obtain⟨⟨⟨⟨⟨⟨⟨-,hG⟩,-⟩,-⟩,-⟩,-⟩,-⟩,-⟩:=h1;rw[zv,C8];omega
end
section
variable {d:bG}{rs:List bL}{s:eE}
open Go.RowKit
attribute [local go_sem ↓] wp_at_zero wp_at_succ
def rT(rs:List bL)(d:bG):Bool:=li rs&&iq d&&bO (-1) (rs.length-1) d.tag&&bO (-1) (rs.length-1) d.fin
def qe(rs:List bL)(d:bG)(s:eE):Bool:=rT rs d&&nC s&&decide (s.S<d.base.length)
def runT(d:bG)(t:ByteArray)(n:Nat)(q:Int):Nat->Int
 |0=>q
 |k+1=>iQ d (runT d t n q k).toNat (t.data.toList.getD (n+k) 0).toNat
def qK(d:bG)(s:eE)(b:Nat):Int:=runT d s.B s.N.toNat s.S (b-s.N.toNat)
def qG(d:bG)(s:eE)(b:Nat):Int:=if s.C&&b==s.B.size then d.fin.getD (qK d s b).toNat 0 else d.tag.getD (qK d s b).toNat 0
structure ku where
 kind:Int
 rule:Int
 start:Int
 fin:Int
 gA:List (Int×Int)
def ku.zero:ku:=⟨0,0,0,0,[]⟩
def Dh(r:bL)(t:ByteArray)(b:Nat)(cl:Bool)(a:Int):Prop:=
 (a=-1/\∀k:Nat,k<=b->¬sj r.dG r.branches t k b cl)\/∃k:Nat,a=k/\k<=b/\sj r.dG r.branches t k b cl/\∀j:Nat,j<k->¬sj r.dG r.branches t j b cl
def Bg(r:bL)(t:ByteArray)(a:Int)(b:Nat)(cl:Bool)(sp:List (Int×Int)):Prop:=
 (a=-1/\sp=gM (-1,-1) r.dG.toNat)\/(0<=a/\Bx r.dG r.branches t a b cl sp)
def oN(rs:List bL)(d:bG)(s s':eE)(x:ku):Prop:=
 (qe rs d s=false/\s'=.zero/\x=.zero)\/
 (qe rs d s=true/\∃b:Nat,s.N.toNat<=b/\b<=s.B.size/\(∀j,s.N.toNat<=j->j<b->qG d s j=-1)/\0<=qG d s b/\
  ∃a sp,Dh (rs.getD (qG d s b).toNat .zero) s.B b s.C a/\Bg (rs.getD (qG d s b).toNat .zero) s.B a b s.C sp/\s'=⟨s.L,s.B.extract b s.B.size,s.C,0,0⟩/\x=⟨1,qG d s b,a,b,sp⟩)\/
 (qe rs d s=true/\(∀j,s.N.toNat<=j->j<=s.B.size->qG d s j=-1)/\s'=⟨s.L,s.B,s.C,qK d s s.B.size,s.B.size⟩/\x=⟨if s.C then 3 else 2,0,0,0,[]⟩)
def iN(s:eE):ze:=zi #[za .i64 s.L,.string s.B,.bool s.C,za .i64 s.S,za .i64 s.N]
def jq(x:ku)(v:ze):ze:=zi #[za .i64 x.kind,za .i64 x.rule,za .i64 x.start,za .i64 x.fin,v]
def Jo(w:zd)(s:eE)(x:ku)(e:Ending)(w':zd):Prop:=
 ∃v,e=.returned (.tuple #[iN s,jq x v])/\w'.ownsRow w.heap.size 71 2 v x.gA.length (pv x.gA)/\zc w.heap.size w w'
theorem zrj(h:rZ d){s c:Nat}(hs:s<d.base.length):0<=iQ d s c/\iQ d s c<d.base.length:=by
 unfold iQ;split
 ·rename_i hk
  have:=Im h.ns (k:=fA d s c) (by rw[h.nk];exact hk.1);unfold De;omega
 ·have:=Im h.ds (k:=s) (by rw[h.dl];exact hs);unfold pw;omega
theorem zp5(h:rZ d)(t:ByteArray)(n:Nat){q:Int}(hq:0<=q)(nY:q<d.base.length):∀k,0<=runT d t n q k/\runT d t n q k<d.base.length
 |0=>⟨hq,nY⟩
 |k+1=>by
  have:=zp5 h t n hq nY k;exact zrj h (by omega)
theorem ER(h:qe rs d s=true):li rs=true/\rZ d/\bO (-1) (rs.length-1) d.tag=true/\bO (-1) (rs.length-1) d.fin=true/\1<=s.L/\s.L<=4096/\(s.B.size:Int)<=s.L/\0<=s.N/\s.N<=s.B.size/\0<=s.S/\s.S<d.base.length:=by
 simp only[qe,rT,nC,dE,oD,IB]at h;obtain⟨⟨⟨⟨⟨a,b⟩,c⟩,e⟩,⟨⟨⟨f1,f2⟩,g⟩,i1,i2⟩,j1,j2⟩,k⟩:=h;exact⟨a,zqe b,c,e,f1,f2,g,i1,i2,j1,k⟩
theorem Ml(h:qe rs d s=true)(b:Nat):0<=qK d s b/\qK d s b<d.base.length:=by
 obtain⟨-,hf,-,-,-,-,-,-,-,h1,h2⟩:=ER h;exact zp5 hf _ _ h1 h2 _
theorem WN(h:qe rs d s=true)(b:Nat):-1<=qG d s b/\qG d s b<rs.length:=by
 obtain⟨-,hf,ht,he,-⟩:=ER h;have hb:=Ml h b;unfold qG;split
 ·have:=Im he (k:=(qK d s b).toNat) (by rw[hf.el];omega);omega
 ·have:=Im ht (k:=(qK d s b).toNat) (by rw[hf.tl];omega);omega
theorem zmG{b:Nat}(hb:s.N.toNat<=b)(c:Nat)(hc:(s.B.data.toList.getD b 0).toNat=c):qK d s (b+1)=iQ d (qK d s b).toNat c:=by
 unfold qK;rw[show b+1-s.N.toNat=(b-s.N.toNat)+1 from by omega];show iQ d _ _=_;rw[show s.N.toNat+(b-s.N.toNat)=b from by omega,hc]
end
section
variable {p:Prop}
open Go.RowKit
attribute [local go_sem ↓] wp_at_zero wp_at_succ
theorem zzJ [Decidable p] (h:p):decide p=true:=decide_eq_true h
theorem zzI [Decidable p] (h:¬p):decide p=false:=decide_eq_false h
theorem zsN(g:Nat)(s:eE)(w:zd)(hg:w.heap[g]?=zf (.cells #[za .i64 s.L,.string s.B,.bool s.C,za .i64 s.S,za .i64 s.N] 32 (0,0))):
  zg prog 37 #[.pointer (zf ⟨g,0,zh⟩)] w λe w'=>e=.returned (.bool (nC s))/\zc w.heap.size w w':=by
 obtain⟨L,B,C,S,N⟩:=s;obtain⟨c0,c1,c2,c3,c4⟩:=eW hg;clear hg;have D:∃v,nC ⟨L,B,C,S,N⟩=v/\(decide (L<1)=true/\v=false\/decide (L<1)=false/\(decide (L > 4096)=true/\v=false\/decide (L > 4096)=false/\(decide ((B.size:Int) > L)=true/\v=false\/decide ((B.size:Int) > L)=false/\
   (decide (N>=0)=false/\v=false\/decide (N>=0)=true/\(decide (N<=(B.size:Int))=false/\v=false\/decide (N<=(B.size:Int))=true/\(decide (S>=0)=false/\v=false\/decide (S>=0)=true/\decide (S<4000)=v)))))):=by
  refine⟨_,rfl,?_⟩;cases h:nC ⟨L,B,C,S,N⟩<;>simp[nC,cz]at h ⊢<;>omega
 obtain⟨v,hv,D⟩:=D;rw[hv];clear hv;rcases D with ⟨d1,rfl⟩|⟨d1,⟨d2,rfl⟩|⟨d2,⟨d3,rfl⟩|⟨d3,⟨d4,rfl⟩|⟨d4,⟨d5,rfl⟩|⟨d5,⟨d6,rfl⟩|⟨d6,d7⟩⟩⟩⟩⟩⟩
 all_goals
  go_enter func37,ntmps37
  go_wp2
  go_quiet (fail)
  go_wp2
  try
   go_quiet (fail)
   go_wp2
  go_ret
  exact⟨rfl,by first|exact below_drewN (Below.refl _ _) _|exact below_drewN (below_drewN (Below.refl _ _) _) _⟩
end
section
variable {l:Nat}
open Go.RowKit
theorem C7(lo hi:Int)(v:ze)(xs:List Int)(w:zd)(hs:iR l w v xs):
  zg prog 72 #[v,za .i64 lo,za .i64 hi] w λe w'=>e=.returned (.bool (bO lo hi xs))/\w'=w:=by
 obtain⟨ao,cap,rfl,hm,hc⟩:=hs
 go_enter func72,ntmps72
 go_wp2
 go_loop [11] (λi=>∃k:Nat,k<=xs.length/\i=za .i64 k/\zb (bO lo hi xs=bO lo hi (xs.drop k)))
  (λi=>xs.length-(intOf i).toNat)
 case atStart=>exact⟨0,aZ _,rfl,rfl⟩
 case round=>
  obtain⟨k,hk,rfl,HS⟩:=hrel
  by_cases hlt:k<xs.length
  ·obtain⟨b,o,x,rfl,Hn,bu,c0⟩:=hc.elem (Below.refl _ _) hlt;have HD:zb _:=zhK lo hi xs k hlt x Hn.out
   by_cases h1:x<lo
   ·have hb:zb (cz x lo hi=false):=by show _=_;simp[cz];omega
    go_wp2;go_ret;exact⟨bF (by rw[HS.out,HD.out,hb.out,Bool.false_and]),rfl⟩
   by_cases h2:hi<x
   ·have hb:zb (cz x lo hi=false):=by show _=_;simp[cz];omega
    go_wp2;go_ret;exact⟨bF (by rw[HS.out,HD.out,hb.out,Bool.false_and]),rfl⟩
   have hb:zb (cz x lo hi=true):=by show _=_;simp[cz];omega
   go_wp2
   go_round
   case rel=>exact⟨k+1,by omega,by go_num,by show _=_;rw[HS.out,HD.out,hb.out,kM]⟩
   case measure=>simp[intOf];omega
  ·go_wp2;go_ret;exact⟨bF (by rw[HS.out,sA (by omega)];rfl),rfl⟩
theorem zfV(v:ze)(xs:List Int)(w:zd)(hs:iR l w v xs):
  zg prog 99 #[v] w λe w'=>e=.returned (.bool (bO (-1) 99 xs))/\w'=w:=by
 go_enter func99,ntmps99
 go_wp2_with fail
 refine(C7 (-1) 99 _ xs _ hs).mono ?_;rintro e w' ⟨rfl,rfl⟩;go_wp2;go_ret;exact⟨rfl,rfl⟩
def um(xs:List Int)(wd:Int):Bool:=decide (xs.length=256)&&cz wd 1 256&&bO 0 (wd-1) xs
theorem zjs(v:ze)(xs:List Int)(wd:Int)(w:zd)(hs:iR l w v xs):
  zg prog 98 #[v,za .i64 wd] w λe w'=>e=.returned (.bool (um xs wd))/\w'=w:=by
 by_cases h1:xs.length=256
 case neg=>
  have H:zb (um xs wd=false):=by show _=_;simp[um,h1]
  obtain⟨ao,cap,rfl,hm,hc⟩:=hs;clear hc;have b1:((xs.length:Int)==256)=false:=by simp;omega
  clear h1
  go_enter func98,ntmps98
  go_wp2;go_ret;exact⟨bF H.out.symm,rfl⟩
 have b1:((xs.length:Int)==256)=true:=by simp[h1]
 have dB:=hs;obtain⟨ao,cap,rfl,hm,hc⟩:=hs;clear hc
 by_cases h2:1<=wd
 case neg=>
  have H:zb (um xs wd=false):=by show _=_;simp[um,cz,h2]
  clear h1
  go_enter func98,ntmps98
  go_wp2;go_ret;exact⟨bF H.out.symm,rfl⟩
 by_cases h3:wd<=256
 case neg=>
  have H:zb (um xs wd=false):=by show _=_;simp[um,cz,h3]
  clear h1
  go_enter func98,ntmps98
  go_wp2;go_ret;exact⟨bF H.out.symm,rfl⟩
 have H:zb (um xs wd=bO 0 (wd-1) xs):=by show _=_;simp[um,cz,h1,h2,h3]
 clear h1
 go_enter func98,ntmps98
 go_wp2_with fail
 refine(C7 _ _ _ xs _ dB).mono ?_;rintro e w' ⟨rfl,rfl⟩;go_wp2;go_ret;exact⟨bF H.out.symm,rfl⟩
end
section
variable {lo:Nat}
open Go.RowKit
def uY(d:bG):Bool:=decide (d.next.length=d.a8.length)&&decide (d.next.length<=60000)&&bO (-1) (d.base.length-1) d.a8&&bO 0 (d.base.length-1) d.next&&vd d.a8 d.next
theorem LR(d:bG):iq d=(cz d.base.length 1 4000&&decide (d.bQ.length=d.base.length)&&decide (d.tag.length=d.base.length)&&decide (d.fin.length=d.base.length) &&
  (um d.ci d.width&&bO 0 59999 d.base&&bO 0 (d.base.length-1) d.bQ&&(bO (-1) 99 d.tag&&bO (-1) 99 d.fin&&uY d))):=by
 rw[Bool.eq_iff_iff];simp only[iq,um,uY,dE];constructor
 ·rintro ⟨⟨⟨⟨⟨⟨⟨⟨⟨a,b⟩,c⟩,e⟩,f⟩,g⟩,i⟩,j⟩,k⟩,l,⟨⟨⟨⟨m,n⟩,o⟩,p⟩,q⟩,r⟩;exact⟨⟨⟨⟨e,f⟩,g⟩,i⟩,⟨⟨⟨⟨a,b⟩,c⟩,m⟩,n⟩,⟨o,p⟩,⟨⟨⟨j,k⟩,q⟩,r⟩,l⟩
 ·rintro ⟨⟨⟨⟨e,f⟩,g⟩,i⟩,⟨⟨⟨⟨a,b⟩,c⟩,m⟩,n⟩,⟨o,p⟩,⟨⟨⟨j,k⟩,q⟩,r⟩,l⟩;exact⟨⟨⟨⟨⟨⟨⟨⟨⟨a,b⟩,c⟩,e⟩,f⟩,g⟩,i⟩,j⟩,k⟩,l,⟨⟨⟨⟨m,n⟩,o⟩,p⟩,q⟩,r⟩
theorem zkm(cv bv fv tv ev nv kv:ze)(d:bG)(w:zd)(hs:eN lo w cv bv fv tv ev nv kv d)(H:zb (uY d=false))
  (h:((d.a8.length:Int) != d.next.length)=true\/((d.a8.length:Int) != d.next.length)=false/\¬d.next.length<=60000):
  zg prog 100 #[zi #[cv,za .i64 d.width,bv,fv,tv,ev,nv,kv]] w λe w'=>e=.returned (.bool (uY d))/\zc w.heap.size w w':=by
 obtain⟨⟨a0,p0,rfl,m0,y0⟩,⟨a1,p1,rfl,m1,y1⟩,⟨a2,p2,rfl,m2,y2⟩,⟨a3,p3,rfl,m3,y3⟩,⟨a4,p4,rfl,m4,y4⟩,⟨a5,p5,rfl,m5,y5⟩,⟨a6,p6,rfl,m6,y6⟩⟩:=hs;clear y0 y1 y2 y3 y4 y5 y6;rcases h with h|⟨b1,h⟩
 all_goals
  go_enter func100,ntmps100
  go_wp2;go_ret;exact⟨bF H.out.symm,au⟩
theorem zp9(cv bv fv tv ev nv kv:ze)(d:bG)(w:zd)(hs:eN lo w cv bv fv tv ev nv kv d)(hn:(d.base.length:Int)<=4000)(g1:d.next.length=d.a8.length)(g2:d.next.length<=60000):
  zg prog 100 #[zi #[cv,za .i64 d.width,bv,fv,tv,ev,nv,kv]] w λe w'=>e=.returned (.bool (uY d))/\zc w.heap.size w w':=by
 have ae:zc w.heap.size w (w.alloc (.cells #[cv,za .i64 d.width,bv,fv,tv,ev,nv,kv] 39)):=au;have dB:=hs.below ae;clear ae;have H:zb (uY d=(bO (-1) (d.base.length-1) d.a8&&bO 0 (d.base.length-1) d.next&&vd d.a8 d.next)):=by show _=_;simp[uY,<-g1,g2]
 have b1:((d.a8.length:Int) != d.next.length)=false:=by simp[g1]
 have Jc:zb (d.a8.length=d.next.length):=g1.symm;clear g1;obtain⟨⟨a0,p0,rfl,m0,y0⟩,⟨a1,p1,rfl,m1,y1⟩,⟨a2,p2,rfl,m2,y2⟩,⟨a3,p3,rfl,m3,y3⟩,⟨a4,p4,rfl,m4,y4⟩,⟨a5,p5,rfl,m5,y5⟩,⟨a6,p6,rfl,m6,y6⟩⟩:=hs;clear y0 y1 y2 y3 y4;have dY:zc w.heap.size w (w.alloc (.cells #[.slice a0 d.ci.length p0,za .i64 d.width,.slice a1 d.base.length p1,.slice a2 d.bQ.length p2,.slice a3 d.tag.length p3,.slice a4 d.fin.length p4,.slice a5 d.next.length p5,.slice a6 d.a8.length p6] 39)):=au
 go_enter func100,ntmps100
 go_wp2_with fail
 refine(C7 _ _ _ d.a8 _ dB.a8).mono ?_;rintro e w' ⟨rfl,rfl⟩;cases q1:bO (-1) (d.base.length-1) d.a8
 case false=>
  rw[q1]at H;go_wp2;go_ret;exact⟨bF (by rw[H.out];simp),dY⟩
 rw[q1]at H
 go_wp2_with fail
 refine(C7 _ _ _ d.next _ dB.next).mono ?_;rintro e w' ⟨rfl,rfl⟩;cases q2:bO 0 (d.base.length-1) d.next
 case false=>
  rw[q2]at H;go_wp2;go_ret;exact⟨bF (by rw[H.out];simp),dY⟩
 rw[q2]at H;have H2:zb (uY d=vd d.a8 d.next):=by show _=_;rw[H.out];simp
 clear H dB q1 q2;go_wp2
 go_loop [39] (λi=>∃k:Nat,k<=d.a8.length/\i=za .i64 k/\zb (uY d=vd (d.a8.drop k) (d.next.drop k)))
  (λi=>d.a8.length-(intOf i).toNat)
 case atStart=>exact⟨0,aZ _,rfl,H2.out⟩
 case round=>
  clear H2;obtain⟨k,hk,rfl,HS⟩:=hrel
  by_cases hlt:k<d.a8.length
  ·have oY:k<d.next.length:=by have:=Jc.out;omega
   obtain⟨b,o,x,rfl,Hn,bu,c0⟩:=y6.elem dY hlt;obtain⟨b2,o2,y,rfl,fQ,j8,d0⟩:=y5.elem dY oY;have HD:zb _:=zhV d.a8 d.next k hlt oY x y Hn.out fQ.out
   by_cases hx:x=-1
   ·by_cases hy:y=0
    ·go_wp2
     go_round
     case rel=>exact⟨k+1,by omega,by go_num,by show _=_;rw[HS.out,HD.out];simp[hx,hy]⟩
     case measure=>simp[intOf];omega
    ·go_wp2;go_ret;exact⟨bF (by rw[HS.out,HD.out];simp[hx,hy]),dY⟩
   ·have HE:zb ((!(x == -1&&y != 0))=true):=by show _=_;simp[hx]
    go_wp2
    go_round
    case rel=>exact⟨k+1,by omega,by go_num,by show _=_;rw[HS.out,HD.out,HE.out,kM]⟩
    case measure=>simp[intOf];omega
  ·rw[zjK _ _ k (by omega)]at HS;go_wp2;go_ret;exact⟨bF HS.out.symm,dY⟩
theorem znV(cv bv fv tv ev nv kv:ze)(d:bG)(w:zd)(hs:eN lo w cv bv fv tv ev nv kv d)(hn:(d.base.length:Int)<=4000):
  zg prog 100 #[zi #[cv,za .i64 d.width,bv,fv,tv,ev,nv,kv]] w λe w'=>e=.returned (.bool (uY d))/\zc w.heap.size w w':=by
 by_cases g1:d.next.length=d.a8.length
 case neg=>exact zkm cv bv fv tv ev nv kv d w hs (by show _=_;simp[uY,g1]) (.inl (by simp;omega))
 by_cases g2:d.next.length<=60000
 case neg=>exact zkm cv bv fv tv ev nv kv d w hs (by show _=_;simp[uY,g2]) (.inr ⟨by simp[g1],g2⟩)
 exact zp9 cv bv fv tv ev nv kv d w hs hn g1 g2
theorem ziI(cv bv fv tv ev nv kv:ze)(d:bG)(w:zd)(hs:eN lo w cv bv fv tv ev nv kv d)(H:zb (iq d=false))
  (h:(d.base.length:Int)<1\/¬(d.base.length:Int)<1/\(4000<(d.base.length:Int)\/¬4000<(d.base.length:Int)/\(((d.bQ.length:Int) != d.base.length)=true\/((d.bQ.length:Int) != d.base.length)=false/\(((d.tag.length:Int) != d.base.length)=true\/((d.tag.length:Int) != d.base.length)=false/\((d.fin.length:Int) != d.base.length)=true)))):
  zg prog 71 #[zi #[cv,za .i64 d.width,bv,fv,tv,ev,nv,kv]] w λe w'=>e=.returned (.bool (iq d))/\zc w.heap.size w w':=by
 obtain⟨⟨a0,p0,rfl,m0,y0⟩,⟨a1,p1,rfl,m1,y1⟩,⟨a2,p2,rfl,m2,y2⟩,⟨a3,p3,rfl,m3,y3⟩,⟨a4,p4,rfl,m4,y4⟩,⟨a5,p5,rfl,m5,y5⟩,⟨a6,p6,rfl,m6,y6⟩⟩:=hs;clear y0 y1 y2 y3 y4 y5 y6;rcases h with h|⟨t1,h|⟨t2,h|⟨b5,h|⟨b6,h⟩⟩⟩⟩
 all_goals
  go_enter func71,ntmps71
  go_wp2;go_ret;exact⟨bF H.out.symm,au⟩
theorem ziJ(cv bv fv tv ev nv kv:ze)(d:bG)(w:zd)(hs:eN lo w cv bv fv tv ev nv kv d)(t1:¬(d.base.length:Int)<1)(t2:¬4000<(d.base.length:Int))(g5:d.bQ.length=d.base.length)(g6:d.tag.length=d.base.length)(g7:d.fin.length=d.base.length):
  zg prog 71 #[zi #[cv,za .i64 d.width,bv,fv,tv,ev,nv,kv]] w λe w'=>e=.returned (.bool (iq d))/\zc w.heap.size w w':=by
 have ae:zc w.heap.size w (w.alloc (.cells #[cv,za .i64 d.width,bv,fv,tv,ev,nv,kv] 39)):=au;have dB:=hs.below ae;clear ae;obtain⟨⟨a0,p0,rfl,m0,y0⟩,⟨a1,p1,rfl,m1,y1⟩,⟨a2,p2,rfl,m2,y2⟩,⟨a3,p3,rfl,m3,y3⟩,⟨a4,p4,rfl,m4,y4⟩,⟨a5,p5,rfl,m5,y5⟩,⟨a6,p6,rfl,m6,y6⟩⟩:=hs;have H:zb (iq d=(um d.ci d.width&&bO 0 59999 d.base&&bO 0 (d.base.length-1) d.bQ&&(bO (-1) 99 d.tag&&bO (-1) 99 d.fin&&uY d))):=by
  show _=_;have e2:cz d.base.length 1 4000=true:=by simp[cz];omega
  rw[LR];simp[g5,g6,g7,e2]
 have hn:(d.base.length:Int)<=4000:=by omega
 clear y0 y1 y2 y3 y4 y5 y6;have bg5:((d.bQ.length:Int) != d.base.length)=false:=by simp[g5]
 clear g5;have bg6:((d.tag.length:Int) != d.base.length)=false:=by simp[g6]
 clear g6;have bg7:((d.fin.length:Int) != d.base.length)=false:=by simp[g7]
 clear g7;have r0:(w.alloc (.cells #[.slice a0 d.ci.length p0,za .i64 d.width,.slice a1 d.base.length p1,.slice a2 d.bQ.length p2,.slice a3 d.tag.length p3,.slice a4 d.fin.length p4,.slice a5 d.next.length p5,.slice a6 d.a8.length p6] 39)).heap[w.heap.size]?=zf (.cells #[.slice a0 d.ci.length p0,za .i64 d.width,.slice a1 d.base.length p1,.slice a2 d.bQ.length p2,.slice a3 d.tag.length p3,.slice a4 d.fin.length p4,.slice a5 d.next.length p5,.slice a6 d.a8.length p6] 39 (0,0)):=aL _ _;have dY:zc w.heap.size w (w.alloc (.cells #[.slice a0 d.ci.length p0,za .i64 d.width,.slice a1 d.base.length p1,.slice a2 d.bQ.length p2,.slice a3 d.tag.length p3,.slice a4 d.fin.length p4,.slice a5 d.next.length p5,.slice a6 d.a8.length p6] 39)):=au
 go_enter func71,ntmps71
 go_wp2_with fail
 refine(zjs _ d.ci _ _ dB.ci).mono ?_;rintro e w' ⟨rfl,rfl⟩;cases q0:um d.ci d.width
 case false=>
  rw[q0]at H;go_wp2;go_ret;exact⟨bF (by rw[H.out];simp),dY⟩
 rw[q0]at H
 go_wp2_with fail
 refine(C7 _ _ _ d.base _ dB.base).mono ?_;rintro e w' ⟨rfl,rfl⟩;cases q1:bO 0 59999 d.base
 case false=>
  rw[q1]at H;go_wp2;go_ret;exact⟨bF (by rw[H.out];simp),dY⟩
 rw[q1]at H
 go_wp2_with fail
 refine(C7 _ _ _ d.bQ _ dB.bQ).mono ?_;rintro e w' ⟨rfl,rfl⟩;cases q2:bO 0 (d.base.length-1) d.bQ
 case false=>
  rw[q2]at H;go_wp2;go_ret;exact⟨bF (by rw[H.out];simp),dY⟩
 rw[q2]at H
 go_wp2_with fail
 refine(zfV _ d.tag _ dB.tag).mono ?_;rintro e w' ⟨rfl,rfl⟩;cases q3:bO (-1) 99 d.tag
 case false=>
  rw[q3]at H;go_wp2;go_ret;exact⟨bF (by rw[H.out];simp),dY⟩
 rw[q3]at H
 go_wp2_with fail
 refine(zfV _ d.fin _ dB.fin).mono ?_;rintro e w' ⟨rfl,rfl⟩;cases q4:bO (-1) 99 d.fin
 case false=>
  rw[q4]at H;go_wp2;go_ret;exact⟨bF (by rw[H.out];simp),dY⟩
 rw[q4]at H
 go_wp2_with fail
 refine(znV _ _ _ _ _ _ _ d _ dB hn).mono ?_;rintro e w2 ⟨rfl,af⟩;go_wp2;go_ret;exact⟨bF (by rw[H.out];simp),aj dY dY.size af⟩
theorem zhB(cv bv fv tv ev nv kv:ze)(d:bG)(w:zd)(hs:eN lo w cv bv fv tv ev nv kv d)(_:zq d):
  zg prog 71 #[zi #[cv,za .i64 d.width,bv,fv,tv,ev,nv,kv]] w λe w'=>e=.returned (.bool (iq d))/\zc w.heap.size w w':=by
 have N:=ziI cv bv fv tv ev nv kv d w hs;have Z:cz d.base.length 1 4000=false->iq d=false:=λe=>by rw[LR,e];simp
 by_cases t1:(d.base.length:Int)<1
 case pos=>exact N (Z (by simp[cz];omega)) (.inl t1)
 by_cases t2:4000<(d.base.length:Int)
 case pos=>exact N (Z (by simp[cz];omega)) (.inr ⟨t1,.inl t2⟩)
 by_cases g5:d.bQ.length=d.base.length
 case neg=>exact N (by show _=_;rw[LR];simp[g5]) (.inr ⟨t1,.inr ⟨t2,.inl (by simp;omega)⟩⟩)
 by_cases g6:d.tag.length=d.base.length
 case neg=>exact N (by show _=_;rw[LR];simp[g6]) (.inr ⟨t1,.inr ⟨t2,.inr ⟨by simp[g5],.inl (by simp;omega)⟩⟩⟩)
 by_cases g7:d.fin.length=d.base.length
 case neg=>exact N (by show _=_;rw[LR];simp[g7]) (.inr ⟨t1,.inr ⟨t2,.inr ⟨by simp[g5],.inr ⟨by simp[g6],by simp;omega⟩⟩⟩⟩)
 exact ziJ cv bv fv tv ev nv kv d w hs t1 t2 g5 g6 g7
end
variable {lo:Nat}
open Go.RowKit
attribute [local go_sem ↓] wp_at_zero wp_at_succ
theorem zqh(cv bv fv tv ev nv kv:ze)(d:bG)(s c:Nat)(w:zd)(hs:eN lo w cv bv fv tv ev nv kv d)(hf:rZ d)(bX:s<d.base.length)(hc:c<256)(h:¬fA d s c<d.a8.length):
  zg prog 76 #[zi #[cv,za .i64 d.width,bv,fv,tv,ev,nv,kv],za .i64 s,za .i64 c] w λe w'=>e=.returned (za .i64 (iQ d s c))/\zc w.heap.size w w':=by
 obtain⟨⟨a0,p0,rfl,m0,y0⟩,⟨a1,p1,rfl,m1,y1⟩,⟨a2,p2,rfl,m2,y2⟩,⟨a3,p3,rfl,m3,y3⟩,⟨a4,p4,rfl,m4,y4⟩,⟨a5,p5,rfl,m5,y5⟩,⟨a6,p6,rfl,m6,y6⟩⟩:=hs;have ik:=hf.cl;have oZ:=hf.n1;have ky:=hf.n2;have tf:=hf.dl;have Ks:=hf.nk;have kz:=hf.nm;obtain⟨x0,x1,z0,z1,iL⟩:=hf.bd bX hc;obtain⟨cb,co,rfl,_,cl,cq⟩:=y0 (by omega);obtain⟨bb,bo,rfl,_,bl,bq⟩:=y1 (by omega);obtain⟨fb,fo,rfl,_,fl,fq⟩:=y2 (by omega);have c0:w.cell? ⟨cb,co+c,zh⟩=zf (za .i64 (iy d c)):=cq c (by omega);have b0:w.cell? ⟨bb,bo+s,zh⟩=zf (za .i64 (iw d s)):=bq s bX;have f0:w.cell? ⟨fb,fo+s,zh⟩=zf (za .i64 (pw d s)):=fq s (by omega);have i0:(0:Int)<=(s:Int):=by omega
 have i1:(s:Int)<(d.base.length:Int):=by omega
 have i2:(0:Int)<=(c:Int):=by omega
 have i3:(c:Int)<(d.ci.length:Int):=by omega
 have i4:(s:Int)<(d.bQ.length:Int):=by omega
 have H:zb (iQ d s c=pw d s):=by show _=_;unfold iQ;rw[aq (λk=>h k.1)]
 have i5:¬iw d s+iy d c<(d.a8.length:Int):=by omega
 clear y3 y4 y5 y6 cq bq fq iL h;generalize iw d s=x at *;generalize iy d c=y at *;generalize pw d s=z at *
 go_enter func76,ntmps76
 go_wp2
 go_quiet (fail)
 go_wp2;go_ret;exact⟨eX H.out.symm,below_drewN (au) _⟩
theorem zlU(cv bv fv tv ev nv kv:ze)(d:bG)(s c:Nat)(w:zd)(hs:eN lo w cv bv fv tv ev nv kv d)(hf:rZ d)(bX:s<d.base.length)(hc:c<256)(h:fA d s c<d.a8.length)(h2:¬vl d (fA d s c)=s):
  zg prog 76 #[zi #[cv,za .i64 d.width,bv,fv,tv,ev,nv,kv],za .i64 s,za .i64 c] w λe w'=>e=.returned (za .i64 (iQ d s c))/\zc w.heap.size w w':=by
 obtain⟨⟨a0,p0,rfl,m0,y0⟩,⟨a1,p1,rfl,m1,y1⟩,⟨a2,p2,rfl,m2,y2⟩,⟨a3,p3,rfl,m3,y3⟩,⟨a4,p4,rfl,m4,y4⟩,⟨a5,p5,rfl,m5,y5⟩,⟨a6,p6,rfl,m6,y6⟩⟩:=hs;have ik:=hf.cl;have oZ:=hf.n1;have ky:=hf.n2;have tf:=hf.dl;have Ks:=hf.nk;have kz:=hf.nm;obtain⟨x0,x1,z0,z1,iL⟩:=hf.bd bX hc;obtain⟨cb,co,rfl,_,cl,cq⟩:=y0 (by omega);obtain⟨bb,bo,rfl,_,bl,bq⟩:=y1 (by omega);obtain⟨fb,fo,rfl,_,fl,fq⟩:=y2 (by omega);have c0:w.cell? ⟨cb,co+c,zh⟩=zf (za .i64 (iy d c)):=cq c (by omega);have b0:w.cell? ⟨bb,bo+s,zh⟩=zf (za .i64 (iw d s)):=bq s bX;have f0:w.cell? ⟨fb,fo+s,zh⟩=zf (za .i64 (pw d s)):=fq s (by omega);have i0:(0:Int)<=(s:Int):=by omega
 have i1:(s:Int)<(d.base.length:Int):=by omega
 have i2:(0:Int)<=(c:Int):=by omega
 have i3:(c:Int)<(d.ci.length:Int):=by omega
 have i4:(s:Int)<(d.bQ.length:Int):=by omega
 obtain⟨kb,ko,rfl,_,kl,kq⟩:=y6 (by omega);have k0:w.cell? ⟨kb,ko+(iw d s+iy d c).toNat,zh⟩=zf (za .i64 (vl d (fA d s c))):=kq (fA d s c) h;have i5:iw d s+iy d c<(d.a8.length:Int):=by omega
 have H:zb (iQ d s c=pw d s):=by show _=_;unfold iQ;rw[aq (λk=>h2 k.2)]
 clear y3 y4 y5 cq bq fq iL h kq;generalize vl d (fA d s c)=q at *;generalize iw d s=x at *;generalize iy d c=y at *;generalize pw d s=z at *
 go_enter func76,ntmps76
 go_wp2
 go_quiet (fail)
 go_wp2;go_ret;exact⟨eX H.out.symm,below_drewN (au) _⟩
theorem zqi(cv bv fv tv ev nv kv:ze)(d:bG)(s c:Nat)(w:zd)(hs:eN lo w cv bv fv tv ev nv kv d)(hf:rZ d)(bX:s<d.base.length)(hc:c<256)(h:fA d s c<d.a8.length)(h2:vl d (fA d s c)=s):
  zg prog 76 #[zi #[cv,za .i64 d.width,bv,fv,tv,ev,nv,kv],za .i64 s,za .i64 c] w λe w'=>e=.returned (za .i64 (iQ d s c))/\zc w.heap.size w w':=by
 obtain⟨⟨a0,p0,rfl,m0,y0⟩,⟨a1,p1,rfl,m1,y1⟩,⟨a2,p2,rfl,m2,y2⟩,⟨a3,p3,rfl,m3,y3⟩,⟨a4,p4,rfl,m4,y4⟩,⟨a5,p5,rfl,m5,y5⟩,⟨a6,p6,rfl,m6,y6⟩⟩:=hs;have ik:=hf.cl;have oZ:=hf.n1;have ky:=hf.n2;have tf:=hf.dl;have Ks:=hf.nk;have kz:=hf.nm;obtain⟨x0,x1,z0,z1,iL⟩:=hf.bd bX hc;obtain⟨cb,co,rfl,_,cl,cq⟩:=y0 (by omega);obtain⟨bb,bo,rfl,_,bl,bq⟩:=y1 (by omega);obtain⟨fb,fo,rfl,_,fl,fq⟩:=y2 (by omega);have c0:w.cell? ⟨cb,co+c,zh⟩=zf (za .i64 (iy d c)):=cq c (by omega);have b0:w.cell? ⟨bb,bo+s,zh⟩=zf (za .i64 (iw d s)):=bq s bX;have f0:w.cell? ⟨fb,fo+s,zh⟩=zf (za .i64 (pw d s)):=fq s (by omega);have i0:(0:Int)<=(s:Int):=by omega
 have i1:(s:Int)<(d.base.length:Int):=by omega
 have i2:(0:Int)<=(c:Int):=by omega
 have i3:(c:Int)<(d.ci.length:Int):=by omega
 have i4:(s:Int)<(d.bQ.length:Int):=by omega
 obtain⟨kb,ko,rfl,_,kl,kq⟩:=y6 (by omega);have k0:w.cell? ⟨kb,ko+(iw d s+iy d c).toNat,zh⟩=zf (za .i64 (vl d (fA d s c))):=kq (fA d s c) h;have i5:iw d s+iy d c<(d.a8.length:Int):=by omega
 obtain⟨nb,no,rfl,_,nl,nq⟩:=y5 (by omega);have n0:w.cell? ⟨nb,no+(iw d s+iy d c).toNat,zh⟩=zf (za .i64 (De d (fA d s c))):=nq (fA d s c) (by omega);have i6:iw d s+iy d c<(d.next.length:Int):=by omega
 have H:zb (iQ d s c=De d (fA d s c)):=by show _=_;unfold iQ;rw[aD ⟨h,h2⟩]
 rw[h2]at k0;clear y3 y4 cq bq fq iL h kq nq h2;generalize De d (fA d s c)=q at *;generalize iw d s=x at *;generalize iy d c=y at *;generalize pw d s=z at *
 go_enter func76,ntmps76
 go_wp2
 go_quiet (fail)
 go_wp2;go_ret;exact⟨eX H.out.symm,below_drewN (au) _⟩
theorem zr6(cv bv fv tv ev nv kv:ze)(d:bG)(s c:Nat)(w:zd)(hs:eN lo w cv bv fv tv ev nv kv d)(hf:rZ d)(bX:s<d.base.length)(hc:c<256):
  zg prog 76 #[zi #[cv,za .i64 d.width,bv,fv,tv,ev,nv,kv],za .i64 s,za .i64 c] w λe w'=>e=.returned (za .i64 (iQ d s c))/\zc w.heap.size w w':=by
 by_cases h:fA d s c<d.a8.length
 ·by_cases h2:vl d (fA d s c)=s
  ·exact zqi cv bv fv tv ev nv kv d s c w hs hf bX hc h h2
  ·exact zlU cv bv fv tv ev nv kv d s c w hs hf bX hc h h2
 ·exact zqh cv bv fv tv ev nv kv d s c w hs hf bX hc h
end Go.Proofs.YtdimhpfiieepiaaGreatDoor
