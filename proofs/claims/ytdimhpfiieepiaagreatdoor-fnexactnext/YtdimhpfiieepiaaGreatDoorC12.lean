import Derived.Test.YtdimhpfiieepiaaGreatDoorC11
import Derived.Deep.RegionHeld3
import Derived.Deep.DrawnRows
import Derived.Deep.QuietTactic
import Derived.BigQuiet
namespace Go.Proofs.YtdimhpfiieepiaaGreatDoor
open Proofs.Tryz
open Value renaming int->za
open Option renaming none->zb,some->zf
open Go renaming World->zc,Value->zd,Calls->zh,TypeId->zi
open Obj renaming cells->ze
open RowKit renaming Below->zg
set_option maxHeartbeats 2000000
set_option maxRecDepth 100000
open Go.RowKit
section
variable {w w':zc}{lo:Nat}{v:zd}
attribute [local go_sem ↓] wp_at_zero wp_at_succ
theorem aY{p:Prop}(h:p):Hid p:=h
theorem zhP{g:Nat}{a b:zd}{t:zi}(h:w.heap[g]?=zf (ze #[a,b] t (0,0))):w.cell? ⟨g,0,zb⟩=zf a/\w.cell? ⟨g,1,zb⟩=zf b:=⟨(aO _ _ _ _ _ _ h:w.cell? ⟨g,0,zb⟩=_),(aO _ _ _ _ _ _ h:w.cell? ⟨g,1,zb⟩=_)⟩
def bL.zero:bL:=⟨[],0⟩
def VW(lo:Nat)(w:zc)(ao:Option Addr)(rs:List bL):Prop:=
 0<rs.length->∃b o,ao=zf ⟨b,o,zb⟩/\lo<=b/\b<w.heap.size/\
  ∀i,i<rs.length->(∃bv,w.cell? ⟨b,o+i*2,zb⟩=zf bv/\eh lo w bv (rs.getD i .zero).branches)/\w.cell? ⟨b,o+i*2+1,zb⟩=zf (za .i64 (rs.getD i .zero).dG)
def gZ(lo:Nat)(w:zc)(v:zd)(rs:List bL):Prop:=∃ao cap,v=.slice ao rs.length cap/\rs.length<=9223372036854775807/\VW lo w ao rs
theorem gZ.same{rs:List bL}(h:gZ lo w v rs)(hb:Same lo w w'):gZ lo w' v rs:=by
 obtain⟨ao,cap,rfl,hm,h⟩:=h;refine⟨ao,cap,rfl,hm,λh0=>?_⟩;obtain⟨b,o,rfl,gV,hlt,hc⟩:=h h0;refine⟨b,o,rfl,gV,bA hlt hb.size,λi hi=>?_⟩;obtain⟨⟨bv,c0,hn⟩,c1⟩:=hc i hi;have hcell:∀off,w'.cell? ⟨b,off,zb⟩=w.cell? ⟨b,off,zb⟩:=λoff=>hb.cell (by exact gV) (by exact hlt)
 exact⟨⟨bv,(hcell _).trans c0,hn.same hb⟩,(hcell _).trans c1⟩
theorem gZ.below{rs:List bL}(h:gZ lo w v rs)(hb:zg w.heap.size w w'):gZ lo w' v rs:=h.same (.cH hb)
theorem gZ.mono{cU:Nat}{rs:List bL}(h:gZ lo w v rs)(hl:cU<=lo):gZ cU w v rs:=by
 obtain⟨ao,cap,rfl,hm,h⟩:=h;refine⟨ao,cap,rfl,hm,λh0=>?_⟩;obtain⟨b,o,rfl,gV,hlt,hc⟩:=h h0;refine⟨b,o,rfl,by omega,hlt,λi hi=>?_⟩;obtain⟨⟨bv,c0,hn⟩,c1⟩:=hc i hi;exact⟨⟨bv,c0,hn.mono hl⟩,c1⟩
theorem VW.elem{wr:zc}{ao:Option Addr}{rs:List bL}(h:VW lo w ao rs)(hb:zg w.heap.size w wr){k:Nat}(hk:k<rs.length):
  ∃(b o:Nat) (bv:zd) (rd:bL),ao=zf ⟨b,o,zb⟩/\Hid (rs.getD k .zero=rd)/\b<w.heap.size/\wr.cell? ⟨b,o+k*2,zb⟩=zf bv/\wr.cell? ⟨b,o+k*2+1,zb⟩=zf (za .i64 rd.dG)/\eh lo w bv rd.branches:=by
 obtain⟨b,o,rfl,_,hlt,hc⟩:=h (by omega);obtain⟨⟨bv,c0,hn⟩,c1⟩:=hc k hk;exact⟨b,o,bv,_,rfl,rfl,hlt,(hb.cell (by exact hlt)).trans c0,(hb.cell (by exact hlt)).trans c1,hn⟩
def qM(rs:List bL):Prop:=rs.length<=1048576/\∀k,k<rs.length->Small (rs.getD k .zero).branches
def iM(r:bL):Bool:=gD r.dG r.branches
def iO:List bL->Int
 |[]=>0
 |r::rs=>jU r.branches+iO rs
theorem zkD(rs:List bL)(k:Nat)(hk:k<rs.length):iO (rs.take (k+1))=iO (rs.take k)+jU (rs.getD k .zero).branches:=by
 induction rs generalizing k with
 |nil=>exact absurd hk (dk _)
 |cons r rs ih=>
  cases k with
  |zero=>simp[iO]
  |succ k=>
   have:=ih k (by simpa using hk);simp only[nE,iO,this,List.getD_cons_succ];omega
def li(rs:List bL):Bool:=decide (rs.length<=100)&&rs.all iM&&decide (iO rs<=4000)
theorem Xc{r:bL}(h:iM r=true):PV r.branches/\0<=jU r.branches/\jU r.branches<=2000:=by
 unfold iM gD at h;simp only[dE,oD]at h;obtain⟨⟨⟨⟨⟨⟨h1,h2⟩,h3⟩,h4⟩,h5⟩,h6⟩,h7⟩:=h;have ha:=zod h4;have:=Pv ha r.branches.length (ai _);rw[wK]at this;exact⟨ha,by omega,h7⟩
theorem zlf(v:zd)(rs:List bL)(w:zc)(hs:gZ lo w v rs)(hsm:qM rs):
  zh prog 61 #[v] w λe W=>e=.returned (.bool (li rs))/\zg w.heap.size w W:=by
 obtain⟨ao,cap,rfl,hm,hc⟩:=hs;have hl:=hsm.1
 by_cases NX:rs.length<=100
 ·have ak:¬(100:Int)<(rs.length:Int):=by omega
  have HC:=aY hc;have MJ:=aY hsm;clear hc hsm hl
  go_enter func61,ntmps61
  go_wp2_with fail
  go_loopw [3,11] (λsv i wr=>∃k:Nat,k<=rs.length/\i=za .i64 k/\sv=za .i64 (iO (rs.take k))/\zg w.heap.size w wr/\(rs.take k).all iM=true/\0<=iO (rs.take k)/\iO (rs.take k)<=2000*k) (λ_ i _=>rs.length-(intOf i).toNat)
  case atStart=>exact⟨0,aZ _,rfl,by simp[iO],Below.refl _ _,rfl,by simp[iO],by simp[iO]⟩
  case round=>
   obtain⟨k,hk,rfl,rfl,hb,db,vW,lG⟩:=hrel
   by_cases hlt:k<rs.length
   ·obtain⟨b,o,bv,rd,rfl,gE,bu,c0,c1,iY⟩:=HC.out.elem hb hlt;have rR:=zkD rs k hlt;rw[gE.out]at rR;have CJ:=MJ.out.2 k hlt;rw[gE.out]at CJ;obtain⟨bo,bc,rfl,yP,rI⟩:=iY;have dO:(0:Int)<=(k:Int):=by omega
    have dh:(k:Int)<(rs.length:Int):=by omega
    have ed:b<wr.heap.size:=bA bu hb.size;have uv:eh lo w (.slice bo rd.branches.length bc) rd.branches:=⟨bo,bc,rfl,yP,rI⟩;obtain⟨W2,dH⟩:∃W2,wr.alloc (ze #[.slice bo rd.branches.length bc,za .i64 rd.dG] 69)=W2:=⟨_,rfl⟩;have b2:zg wr.heap.size wr W2:=by rw[<-dH];exact au
    have x2:W2.heap[wr.heap.size]?=zf (ze #[.slice bo rd.branches.length bc,za .i64 rd.dG] 69 (0,0)):=by rw[<-dH];exact aL _ _
    have dL:=aj hb hb.size b2;have cr:=zfd rd.dG (.slice bo rd.branches.length bc) rd.branches W2 (uv.below dL) CJ;have cw:∀W3,zg w.heap.size w W3->iM rd=true->zh prog 88 #[.agg #[.slice bo rd.branches.length bc,za .i64 rd.dG]] W3 λe W4=>e=.returned (za .i64 (jU rd.branches))/\zg W3.heap.size W3 W4:=λW3 h3 h4=>zfb rd.dG (.slice bo rd.branches.length bc) rd.branches W3 (uv.below h3) CJ (Xc h4).1
    obtain⟨q0,q1⟩:=zhP x2;have XU:=aY x2;have I3:=aY dH;have I5:=aY rR;have zB:=aY dL;have JX:(rs.take (k+1)).all iM=iM rd:=by
     rw[List.take_add_one,List.all_append,db,eY hlt,<-gE.out];simp[List.getD,hlt]
    have P7:=aY JX;have hno:iM rd=false->li rs=false:=λh=>by
     have:rs.all iM=false:=by
      rw[Bool.eq_false_iff];intro h2;have h3:=jl.1 h2 rd (by rw[<-gE.out];simp[List.getD,hlt]);rw[h]at h3;cases h3
     unfold li;rw[this];simp
    have Qi:=aY hno;have Kv:iM rd=gD rd.dG rd.branches:=rfl;rw[<-Kv]at cr;have zwb:iM rd=true->0<=jU rd.branches/\jU rd.branches<=2000:=λh=>(Xc h).2
    have HOB:=aY zwb;generalize eU:iM rd=ok at *;generalize pb:jU rd.branches=rw1 at *;clear rI uv dH x2 rR dL b2 hb db JX hno Kv eU CJ yP zwb
    go_upto_region 7 with fail
    rw[I3.out];clear I3 c0 c1;cases ok
    ·go_wp2_with fail
     refine cr.mono ?_;rintro e W3 ⟨rfl,b3⟩;go_wp2;go_ret;exact⟨by rw[Qi.out (by simp)];rfl,aj zB.out zB.out.size b3⟩
    ·go_wp2_with fail
     refine cr.mono ?_;rintro e W3 ⟨rfl,b3⟩;have ql:=aj zB.out zB.out.size b3;obtain⟨q0,q1⟩:=zhP ((b3.block _ (ID XU.out)).trans XU.out);have Zs:=cw W3 ql (by simp);have yi:=aY ql;obtain⟨de,eH⟩:=HOB.out (by simp);generalize On:iO (rs.take k)=ss at *;have jx:IntKind.i64.wrap (ss+rw1)=ss+rw1:=by rw[IntKind.wrap_i64];omega
     clear cr cw ql b3 On
     go_wp2_with fail
     refine Zs.mono ?_;rintro e W4 ⟨rfl,b4⟩;clear Zs;go_wp2
     go_roundw
     case rel=>exact⟨k+1,by omega,by go_num,by rw[I5.out],aj yi.out yi.out.size b4,P7.out,by rw[I5.out];omega,by rw[I5.out];omega⟩
     case measure=>simp[intOf];omega
   ·have bC:k=rs.length:=by omega
    rw[bC,wK]at db vW lG ⊢;have hne:¬(rs.length:Int)<(rs.length:Int):=by omega
    have HB:=aY hb;have uD:li rs=decide (iO rs<=4000):=by unfold li;rw[db];simp[NX]
    have ME:=aY uD;clear hb uD;go_wp2;go_ret;exact⟨by rw[ME.out];rfl,HB.out⟩
 ·have ak:(100:Int)<(rs.length:Int):=by omega
  have:li rs=false:=by unfold li;simp[NX]
  rw[this];clear this hc hsm
  go_enter func61,ntmps61
  go_wp2;go_ret;exact⟨rfl,Below.refl _ _⟩
end
section
variable {lo:Nat}{w w':zc}{v:zd}{xs:List Int}
attribute [local go_sem ↓] wp_at_zero wp_at_succ
def Wm(lo:Nat)(w:zc)(ao:Option Addr)(xs:List Int):Prop:=
 0<xs.length->∃b o,ao=zf ⟨b,o,zb⟩/\lo<=b/\b<w.heap.size/\∀i,i<xs.length->w.cell? ⟨b,o+i,zb⟩=zf (za .i64 (xs.getD i 0))
def iR(lo:Nat)(w:zc)(v:zd)(xs:List Int):Prop:=∃ao cap,v=.slice ao xs.length cap/\xs.length<=9223372036854775807/\Wm lo w ao xs
theorem iR.same(h:iR lo w v xs)(hb:Same lo w w'):iR lo w' v xs:=by
 obtain⟨ao,cap,rfl,hm,h⟩:=h;refine⟨ao,cap,rfl,hm,λh0=>?_⟩;obtain⟨b,o,rfl,gV,hlt,hc⟩:=h h0;exact⟨b,o,rfl,gV,bA hlt hb.size,λi hi=>(hb.cell (by exact gV) (by exact hlt)).trans (hc i hi)⟩
theorem iR.below(h:iR lo w v xs)(hb:zg w.heap.size w w'):iR lo w' v xs:=h.same (.cH hb)
theorem iR.mono{cU:Nat}(h:iR lo w v xs)(hl:cU<=lo):iR cU w v xs:=by
 obtain⟨ao,cap,rfl,hm,h⟩:=h;refine⟨ao,cap,rfl,hm,λh0=>?_⟩;obtain⟨b,o,rfl,gV,r⟩:=h h0;exact⟨b,o,rfl,aU hl gV,r⟩
theorem iR.setCell(h:iR lo w v xs){a:Addr}(ha:a.block<lo)(u:zd):iR lo (w.setCell a u) v xs:=h.same (Same.setCell w ha u)
theorem Wm.elem{wr:zc}{ao:Option Addr}(h:Wm lo w ao xs)(hb:zg w.heap.size w wr){k:Nat}(hk:k<xs.length):
  ∃(b o:Nat) (x:Int),ao=zf ⟨b,o,zb⟩/\Hid (xs.getD k 0=x)/\b<w.heap.size/\wr.cell? ⟨b,o+k,zb⟩=zf (za .i64 x):=by
 obtain⟨b,o,rfl,_,hlt,hc⟩:=h (by omega);exact⟨b,o,_,rfl,rfl,hlt,(hb.cell (by exact hlt)).trans (hc k hk)⟩
def iP(xs:List Int)(left:Int):Int:=if left-xs.length<0 then -1 else left-xs.length
theorem C4(xs:List Int)(l:Int)(h:0<=l):-1<=iP xs l/\iP xs l<=l:=by unfold iP;split<;>omega
theorem EX(a:Option Addr)(xs:List Int)(cap:Nat)(left:Int)(w:zc)(h0:0<=left)(h1:left<=1048576)(h2:xs.length<=9223372036854775807):
  zh prog 60 #[.slice a xs.length cap,za .i64 left] w λe w'=>e=.returned (za .i64 (iP xs left))/\w'=w:=by
 by_cases hle:left-xs.length<0
 all_goals
  go_enter func60,ntmps60
  go_wp2;go_ret;exact⟨eX (by unfold iP;split<;>omega),rfl⟩
theorem znf{xs:List zd}{k:Nat}{f:Nat->List zd}{a:zd}(h:nu xs 1 k f)(hl:k<xs.length)(hk:f k=[a]):nu (xs.set k a) 1 (k+1) f:=by
 intro j hj c hc;obtain rfl:c=0:=by omega
 rw[Nat.mul_one,wH,qS]
 by_cases e:j=k
 ·subst e;rw[hk];simp;omega
 ·rw[aq (by omega)];have:=h j (by omega) 0 (by omega)
  simpa using this
theorem E4{l1 l2:Nat}(v v2:zd)(xs:List Int)(w:zc)(hs:iR l1 w v xs)(cZ:iR l2 w v2 xs):
  zh prog 79 #[v,v2] w λe w'=>e=.returned (.bool true)/\zg w.heap.size w w':=by
 obtain⟨ao,cap,rfl,hm,hc⟩:=hs;obtain⟨iG,fe,rfl,_,dx⟩:=cZ
 go_enter func79,ntmps79
 go_wp2
 go_loopw [5] (λi wr=>∃k:Nat,k<=xs.length/\i=za .i64 k/\zg w.heap.size w wr)
  (λi _=>xs.length-(intOf i).toNat)
 case atStart=>exact⟨0,aZ _,rfl,Below.refl _ _⟩
 case round=>
  obtain⟨k,hk,rfl,hb⟩:=hrel
  by_cases hlt:k<xs.length
  ·obtain⟨b,o,x,rfl,Hn,bu,c0⟩:=hc.elem hb hlt;obtain⟨b2,o2,x2,rfl,fQ,j8,d0⟩:=dx.elem hb hlt;have uA:x=x2:=Hn.out.symm.trans fQ.out;subst uA;have dO:(0:Int)<=(k:Int):=by omega
   have dh:(k:Int)<(xs.length:Int):=by omega
   have hne:(x != x)=false:=by simp
   go_wp2
   go_quiet (fail)
   go_wp2
   go_roundw
   case rel=>exact⟨k+1,by omega,by go_num,below_drewN hb _⟩
   case measure=>simp[intOf];omega
  ·go_wp2;go_ret;exact⟨rfl,hb⟩
def bO(lo hi:Int)(xs:List Int):Bool:=xs.all λx=>cz x lo hi
theorem zhK(lo hi:Int)(xs:List Int)(k:Nat)(hk:k<xs.length)(x:Int)(h:xs.getD k 0=x):bO lo hi (xs.drop k)=(cz x lo hi&&bO lo hi (xs.drop (k+1))):=by
 rw[oC hk];have:xs[k]=x:=by rw[<-h];simp[List.getD,hk]
 unfold bO;rw[List.all_cons,this]
theorem Im{lo hi:Int}(h:bO lo hi xs=true){k:Nat}(hk:k<xs.length):lo<=xs.getD k 0/\xs.getD k 0<=hi:=by
 have:=jl.1 h (xs.getD k 0) (by
  rw[cL,eY hk];exact oz _)
 simpa [cz]using this
end
theorem zks{xs:List Int}{l:Int}(h:0<=iP xs l)(hl:l<=1048576):xs.length<=1048576/\iP xs l<=1048576:=by
 unfold iP at h ⊢;split at h<;>(try split)<;>omega
theorem zr{l:Nat}(lo hi:Int)(v:zd)(xs:List Int)(w:zc)(hs:iR l w v xs):
  zh prog 63 #[v,za .i64 lo,za .i64 hi] w λe w'=>e=.returned (.bool (bO lo hi xs))/\w'=w:=by
 obtain⟨ao,cap,rfl,hm,hc⟩:=hs
 go_enter func63,ntmps63
 go_wp2
 go_loop [11] (λi=>∃k:Nat,k<=xs.length/\i=za .i64 k/\Hid (bO lo hi xs=bO lo hi (xs.drop k)))
  (λi=>xs.length-(intOf i).toNat)
 case atStart=>exact⟨0,aZ _,rfl,rfl⟩
 case round=>
  obtain⟨k,hk,rfl,HS⟩:=hrel
  by_cases hlt:k<xs.length
  ·obtain⟨b,o,x,rfl,Hn,bu,c0⟩:=hc.elem (Below.refl _ _) hlt;have HD:Hid _:=zhK lo hi xs k hlt x Hn.out
   by_cases hb:cz x lo hi=true
   ·go_wp2_with (go_at_call 47;refine(tO _ _ _ _).mono ?_;rintro e w' ⟨rfl,rfl⟩)
    go_round
    case rel=>exact⟨k+1,by omega,by go_num,by show _=_;rw[HS.out,HD.out,hb,kM]⟩
    case measure=>simp[intOf];omega
   ·have Cm:cz x lo hi=false:=by simpa using hb
    clear hb
    go_wp2_with (go_at_call 47;refine(tO _ _ _ _).mono ?_;rintro e w' ⟨rfl,rfl⟩)
    go_ret
    exact⟨bF (by rw[HS.out,HD.out,Cm,Bool.false_and]),rfl⟩
  ·go_wp2;go_ret;exact⟨bF (by rw[HS.out,sA (by omega)];rfl),rfl⟩
section
variable {w W:zc}{C0 C1 C2:Array zd}
structure vA(w:zc)(t0 t1 t2:zi)(C0 C1 C2:Array zd)(W:zc):Prop where
 below:zg w.heap.size w W
 size:w.heap.size+1+1+1<=W.heap.size
 r0:W.heap[w.heap.size]?=zf (ze C0 t0 (0,0))
 r1:W.heap[w.heap.size+1]?=zf (ze C1 t1 (0,0))
 r2:W.heap[w.heap.size+1+1]?=zf (ze C2 t2 (0,0))
theorem vA.new(w:zc)(t0 t1 t2:zi)(C0 C1 C2:Array zd):vA w t0 t1 t2 C0 C1 C2 (((w.alloc (ze C0 t0)).alloc (ze C1 t1)).alloc (ze C2 t2)):=
 ⟨((au).alloc (by simp) _).alloc (by simp;omega) _,by simp,
  by rw[Below.heap_alloc _ _ _ (by simp;omega),heap_alloc2_old],by rw[Below.heap_alloc _ _ _ (by simp),heap_alloc2_new],
  by have:=aL ((w.alloc (ze C0 t0)).alloc (ze C1 t1)) (ze C2 t2);simpa using this⟩
theorem vA.call{W':zc}{t0 t1 t2:zi}(h:vA w t0 t1 t2 C0 C1 C2 W)(hb:zg W.heap.size W W'):vA w t0 t1 t2 C0 C1 C2 W':=by
 have hz:=h.size;exact⟨aj h.below h.below.size hb,aU hz hb.size,(hb.block _ (by omega)).trans h.r0,(hb.block _ (by omega)).trans h.r1,(hb.block _ (by omega)).trans h.r2⟩
theorem vA.set{t0 t1 t2:zi}(h:vA w t0 t1 t2 C0 C1 C2 W)(o:Nat)(v:zd):vA w t0 t1 t2 C0 C1 (C2.setIfInBounds o v) (W.setCell ⟨w.heap.size+1+1,o,zb⟩ v):=
 ⟨h.below.setCell (by simp;omega) _,by simpa [World.setCell]using h.size,(cu _ _ _ _ (by simp;omega)).trans h.r0,(cu _ _ _ _ (by simp)).trans h.r1,dF _ _ _ _ _ _ h.r2⟩
theorem vA.cells{t0 t1 t2:zi}(h:vA w t0 t1 t2 C0 C1 C2 W):(∀o,W.cell? ⟨w.heap.size,o,zb⟩=C0[o]?)/\(∀o,W.cell? ⟨w.heap.size+1,o,zb⟩=C1[o]?)/\(∀o,W.cell? ⟨w.heap.size+1+1,o,zb⟩=C2[o]?)/\
  (∀o,W.frozen? ⟨w.heap.size+1,o,zb⟩=false)/\(∀o,W.frozen? ⟨w.heap.size+1+1,o,zb⟩=false):=
 ⟨λ_=>aO _ _ _ _ _ _ h.r0,λ_=>aO _ _ _ _ _ _ h.r1,λ_=>aO _ _ _ _ _ _ h.r2,λ_=>cF _ _ _ _ _ h.r1,λ_=>cF _ _ _ _ _ h.r2⟩
end
theorem IB{x a b:Int}:cz x a b=true↔a<=x/\x<=b:=by simp[cz]
variable {xs:List Int}{r:List (List Int)}{l:Int}
structure bG where
 ci:List Int
 width:Int
 base:List Int
 bQ:List Int
 tag:List Int
 fin:List Int
 next:List Int
 a8:List Int
structure eN(lo:Nat)(w:zc)(cv bv fv tv ev nv kv:zd)(d:bG):Prop where
 ci:iR lo w cv d.ci
 base:iR lo w bv d.base
 bQ:iR lo w fv d.bQ
 tag:iR lo w tv d.tag
 fin:iR lo w ev d.fin
 next:iR lo w nv d.next
 a8:iR lo w kv d.a8
theorem eN.below{lo:Nat}{w w':zc}{cv bv fv tv ev nv kv:zd}{d:bG}(h:eN lo w cv bv fv tv ev nv kv d)(hb:zg w.heap.size w w'):eN lo w' cv bv fv tv ev nv kv d:=
 ⟨h.ci.below hb,h.base.below hb,h.bQ.below hb,h.tag.below hb,h.fin.below hb,h.next.below hb,h.a8.below hb⟩
def bG.lists(d:bG):List (List Int):=[d.ci,d.base,d.bQ,d.tag,d.fin,d.next,d.a8]
def kJ:List (List Int)->Int->Int
 |[],l=>l
 |xs::r,l=>if iP xs l<0 then -1 else kJ r (iP xs l)
theorem zmJ:∀(ls:List (List Int)) (l:Int),0<=l->-1<=kJ ls l/\kJ ls l<=l
 |[],l,h=>by unfold kJ;omega
 |xs::r,l,h=>by
  have a:=C4 xs l h;unfold kJ;split
  ·omega
  ·have:=zmJ r _ (show 0<=iP xs l by omega);omega
theorem zhl:∀(ls:List (List Int)) (l:Int),0<=l->l<=1048576->0<=kJ ls l->∀xs∈ls,xs.length<=1048576
 |[],_,_,_,_,xs,hx=>by cases hx
 |ys::r,l,h0,h1,h,xs,hx=>by
  unfold kJ at h;split at h
  ·omega
  ·rename_i hn
   have a:=zks (show 0<=iP ys l by omega) h1;rcases oB.1 hx with rfl|hx
   ·exact a.1
   ·exact zhl r _ (by omega) a.2 h xs hx
theorem E9(h:iP xs l<0):kJ (xs::r) l=-1:=by unfold kJ;rw[aD h]
theorem Ff(h:¬iP xs l<0):kJ (xs::r) l=kJ r (iP xs l):=by rw[kJ,aq h]
def zq(d:bG):Prop:=∀xs∈d.lists,xs.length<=1048576
theorem zne{l1 l2:Nat}(cv bv fv tv ev nv kv vE vD oR wv vF pi vY:zd)(d:bG)(w:zc)(hs:eN l1 w cv bv fv tv ev nv kv d)(cZ:eN l2 w vE vD oR wv vF pi vY d):
  zh prog 41 #[.agg #[cv,za .i64 d.width,bv,fv,tv,ev,nv,kv],.agg #[vE,za .i64 d.width,vD,oR,wv,vF,pi,vY]] w λe w'=>e=.returned (.bool true)/\zg w.heap.size w w':=by
 have NU:zg w.heap.size w ((w.alloc (ze #[cv,za .i64 d.width,bv,fv,tv,ev,nv,kv] 39)).alloc (ze #[vE,za .i64 d.width,vD,oR,wv,vF,pi,vY] 39)):=(au).alloc (by simp) _;have r0:((w.alloc (ze #[cv,za .i64 d.width,bv,fv,tv,ev,nv,kv] 39)).alloc (ze #[vE,za .i64 d.width,vD,oR,wv,vF,pi,vY] 39)).heap[w.heap.size]?=zf (ze #[cv,za .i64 d.width,bv,fv,tv,ev,nv,kv] 39 (0,0)):=heap_alloc2_old _ _ _;have q0:((w.alloc (ze #[cv,za .i64 d.width,bv,fv,tv,ev,nv,kv] 39)).alloc (ze #[vE,za .i64 d.width,vD,oR,wv,vF,pi,vY] 39)).heap[w.heap.size+1]?=zf (ze #[vE,za .i64 d.width,vD,oR,wv,vF,pi,vY] 39 (0,0)):=heap_alloc2_new _ _ _
 go_enter func41,ntmps41
 go_wp2_with fail
 refine(E4 _ _ d.ci _ (hs.below NU).ci (cZ.below NU).ci).mono ?_;rintro e w1 ⟨rfl,ak⟩;have Ay:=aj NU NU.size ak;have r1:=cB r0 ak;have q1:=cB q0 ak;clear ak;have x0:=cm r1;have x1:=cm q1
 go_wp2_with fail
 refine(E4 _ _ d.base _ (hs.below Ay).base (cZ.below Ay).base).mono ?_;rintro e w2 ⟨rfl,af⟩;have rH:=aj Ay Ay.size af;have r2:=cB r1 af;have q2:=cB q1 af;clear af;clear x0 x1;have x0:=cm r2;have x1:=cm q2
 go_wp2_with fail
 refine(E4 _ _ d.bQ _ (hs.below rH).bQ (cZ.below rH).bQ).mono ?_;rintro e w3 ⟨rfl,ay⟩;have ij:=aj rH rH.size ay;have r3:=cB r2 ay;have q3:=cB q2 ay;clear ay;clear x0 x1;have x0:=cm r3;have x1:=cm q3
 go_wp2_with fail
 refine(E4 _ _ d.tag _ (hs.below ij).tag (cZ.below ij).tag).mono ?_;rintro e w4 ⟨rfl,aG⟩;have iX:=aj ij ij.size aG;have r4:=cB r3 aG;have q4:=cB q3 aG;clear aG;clear x0 x1;have x0:=cm r4;have x1:=cm q4
 go_wp2_with fail
 refine(E4 _ _ d.fin _ (hs.below iX).fin (cZ.below iX).fin).mono ?_;rintro e w5 ⟨rfl,bE⟩;have NV:=aj iX iX.size bE;have r5:=cB r4 bE;have q5:=cB q4 bE;clear bE;clear x0 x1;have x0:=cm r5;have x1:=cm q5
 go_wp2_with fail
 refine(E4 _ _ d.next _ (hs.below NV).next (cZ.below NV).next).mono ?_;rintro e w6 ⟨rfl,dz⟩;have NW:=aj NV NV.size dz;have r6:=cB r5 dz;have q6:=cB q5 dz;clear dz;clear x0 x1;have x0:=cm r6;have x1:=cm q6
 go_wp2_with fail
 refine(E4 _ _ d.a8 _ (hs.below NW).a8 (cZ.below NW).a8).mono ?_;rintro e w7 ⟨rfl,vI⟩;have Sm:=aj NW NW.size vI;have r7:=cB r6 vI;have q7:=cB q6 vI;clear vI;clear x0 x1;have x0:=cm r7;have x1:=cm q7;go_wp2;go_ret;exact⟨rfl,Sm⟩
end Go.Proofs.YtdimhpfiieepiaaGreatDoor
