import Derived.Test.YtfajjdgkiilhfaaGreatDoorC12
namespace Go.Proofs.YtfajjdgkiilhfaaGreatDoor
open Proofs.Tryz
open Value renaming int->za,slice->zd
open Option renaming some->zb,none->zc
open RowKit renaming Hid->ze,Below->zg
open Obj renaming cells->zf
open Go renaming World->zh,Value->zi
set_option maxHeartbeats 4000000
set_option maxRecDepth 100000
open Go.RowKit
variable {w:zh}{B g2:Nat}
def dT(ns:List aC)(i:Nat):Int:=(ns.getD i .zero).kind
def aN(ns:List aC):Nat->List Nat
 |0=>[]
 |i+1=>(aN ns i).take ((aN ns i).length-aP (dT ns i))++[i]
def pw(ns:List aC)(i:Nat):Int:=if aP (dT ns i)=0 then -1 else ((aN ns i).getD ((aN ns i).length-aP (dT ns i)) 0:Nat)
def ve(ns:List aC)(i:Nat):Int:=if aP (dT ns i)=2 then ((aN ns i).getD ((aN ns i).length-1) 0:Nat) else -1
def gF:List aC->Nat->Option Nat
 |[],d=>zb d
 |n::ns,d=>if d<aP n.kind then zc else gF ns (d-aP n.kind+1)
def kL(ns:List aC):Bool:=gF ns 0==zb 1
theorem zo0(ns:List aC)(i:Nat)(hi:i<ns.length)(d:Nat)(kd:Int)(h:dT ns i=kd):gF (ns.drop i) d=if d<aP kd then zc else gF (ns.drop (i+1)) (d-aP kd+1):=by
 rw[Dn hi];have:ns[i].kind=kd:=by rw[<-h];simp[dT,List.getD,hi]
 rw[gF,this]
theorem zrH(ns:List aC)(i:Nat):(aN ns (i+1)).length=(aN ns i).length-aP (dT ns i)+1:=by
 simp[aN]
theorem ztN(ns:List aC):∀i,(aN ns i).length<=i
 |0=>aq _
 |i+1=>by have:=ztN ns i;rw[zrH];omega
theorem Pb(ns:List aC):∀i,∀j∈aN ns i,j<i
 |0,j,h=>by simp[aN]at h
 |i+1,j,h=>by
  unfold aN at h;rcases gH.1 h with h|h
  ·exact Nat.lt_succ_of_lt (Pb ns i j (List.mem_of_mem_take h))
  ·simp at h;omega
def tV(ns:List aC)(k:Nat):List zi:=(List.range k).map λi=>za .i64 (pw ns i)
def tW(ns:List aC)(k:Nat):List zi:=(List.range k).map λi=>za .i64 (ve ns i)
def qH(l:List Nat):List zi:=l.map λj:Nat=>za .i64 (j:Int)
theorem zrq(ns:List aC)(k:Nat):tV ns (k+1)=tV ns k++[za .i64 (pw ns k)]:=by simp[tV,List.range_succ]
theorem zrr(ns:List aC)(k:Nat):tW ns (k+1)=tW ns k++[za .i64 (ve ns k)]:=by simp[tW,List.range_succ]
theorem zib(l:List Nat)(m:Nat):(qH l).take m=qH (l.take m):=by simp[qH,List.map_take]
theorem zrs(l:List Nat)(j:Nat):qH (l++[j])=qH l++[za .i64 (j:Int)]:=by simp[qH]
theorem zki(l:List Nat)(i:Nat)(h:i<l.length):(qH l)[i]?=zb (za .i64 ((l.getD i 0:Nat):Int)):=by simp[qH,h,List.getD]
structure ztQ(w:zh)(B:Nat)(gl cl gr cr gs cs k d:Nat)(L R S:List zi):Prop where
 left:w.ownsRow B 3 1 (zd (zb ⟨gl,0,zc⟩) k cl) k L
 right:w.ownsRow B 3 1 (zd (zb ⟨gr,0,zc⟩) k cr) k R
 stack:w.ownsRow B 3 1 (zd (zb ⟨gs,0,zc⟩) d cs) d S
 lr:gl≠gr
 ls:gl≠gs
 rs:gr≠gs
theorem sU{w':zh}{g cap n:Nat}{xs:List zi}(h:w.ownsRow B 3 1 (zd (zb ⟨g,0,zc⟩) n cap) n xs)(hg:w.grownBy w' (zb g2))(hne:g≠g2):w'.ownsRow B 3 1 (zd (zb ⟨g,0,zc⟩) n cap) n xs:=
 h.kept hg (.inr (by simp[Value.ownBlock];exact hne))
theorem zhF{ns:List aC}{k m gl cl gr cr gs cs g1 c1 c2 g3 c3:Nat}{wr W w1 w2 w3:zh}{lf rt:Int}
  (hst:aN ns (k+1)=(aN ns k).take m++[k]) (hm:m<=(aN ns k).length)
  (wA:w1.ownsRow B 3 1 (zd (zb ⟨g1,0,zc⟩) (k+1) c1) (k+1) (tV ns k++[za .i64 lf])) (nP:w2.ownsRow B 3 1 (zd (zb ⟨g2,0,zc⟩) (k+1) c2) (k+1) (tW ns k++[za .i64 rt]))
  (HU:w3.ownsRow B 3 1 (zd (zb ⟨g3,0,zc⟩) (m+1) c3) (m+1) (qH ((aN ns k).take m)++[za .i64 (k:Int)]))
  (nD:W.grownBy w1 (zb gl)) (kx:w1.grownBy w2 (zb gr)) (BW:w2.grownBy w3 (zb gs)) (pJ:g1=gl\/g1=W.heap.size+1) (jb:g2=gr\/g2=w1.heap.size+1) (DO:g3=gs\/g3=w2.heap.size+1)
  (hl:pw ns k=lf) (hr:ve ns k=rt) (fW:zg w.heap.size w W) (hB:B=w.heap.size) (gw:ztQ wr B gl cl gr cr gs cs k (aN ns k).length (tV ns k) (tW ns k) (qH (aN ns k))) (mR:gr<W.heap.size) (RF:gs<W.heap.size)
  (gY:ze (gF ns 0=gF (ns.drop (k+1)) (aN ns (k+1)).length)) (wX:ze (∀i,i<k+1->aP (dT ns i)<=(aN ns i).length)) (hlt:k<ns.length):
  ∃(k' gl cl gr cr gs cs:Nat),k'<=ns.length/\Value.int .i64 ((k:Int)+1)=za .i64 k'/\Value.slice (zb ⟨g1,0,zc⟩) (k+1) c1=zd (zb ⟨gl,0,zc⟩) k' cl/\Value.slice (zb ⟨g2,0,zc⟩) (k+1) c2=zd (zb ⟨gr,0,zc⟩) k' cr/\Value.slice (zb ⟨g3,0,zc⟩) (m+1) c3=zd (zb ⟨gs,0,zc⟩) (aN ns k').length cs/\zg w.heap.size w w3/\ztQ w3 w.heap.size gl cl gr cr gs cs k' (aN ns k').length (tV ns k') (tW ns k') (qH (aN ns k'))/\ze (gF ns 0=gF (ns.drop k') (aN ns k').length)/\ze (∀i,i<k'->aP (dT ns i)<=(aN ns i).length):=by
 subst hB;have hlen:(aN ns (k+1)).length=m+1:=by rw[hst];simp;omega
 obtain⟨aO,_,_,_⟩:=qd gw.left;obtain⟨aB,_,_,_⟩:=qd gw.right;obtain⟨fD,_,_,_⟩:=qd gw.stack;have s1:=nD.size;have s2:=kx.size;have f1:=(qd wA).2.1;have f2:=(qd nP).2.1;have b1:zg w.heap.size w w1:=fW.grown nD fW.size (by intro q hq;cases hq;exact aO);have b2:zg w.heap.size w w2:=b1.grown kx b1.size (by intro q hq;cases hq;exact aB);have b3:zg w.heap.size w w3:=b2.grown BW b2.size (by intro q hq;cases hq;exact fD);have n1r:g1≠gr:=by have:=gw.lr;rcases pJ with h|h<;>omega
 have n1s:g1≠gs:=by have:=gw.ls;rcases pJ with h|h<;>omega
 have n2s:g2≠gs:=by have:=gw.rs;rcases jb with h|h<;>omega
 have SD:g1≠g2:=by rcases jb with h|h<;>omega
 refine⟨k+1,g1,c1,g2,c2,g3,c3,by omega,by go_num,rfl,rfl,by rw[hlen],b3,⟨?_,?_,?_,SD,?_,?_⟩,gY,wX⟩
 ·rw[zrq,hl];exact sU (sU wA kx n1r) BW n1s
 ·rw[zrr,hr];exact sU nP BW n2s
 ·rw[hlen,hst,zrs];exact HU
 ·rcases DO with h|h<;>omega
 ·rcases DO with h|h<;>omega
theorem zmX{lo:Nat}(v:zi)(ns:List aC)(w:zh)(hs:og lo w v ns)(hn:ns.length<=1048576):
  Calls prog 86 #[v] w λe w'=>zg w.heap.size w w'/\((kL ns=false/\∃lv rv,e=.returned (.tuple #[lv,rv,.bool false]))\/
   (kL ns=true/\∃gl cl gr cr,e=.returned (.tuple #[zd (zb ⟨gl,0,zc⟩) ns.length cl,zd (zb ⟨gr,0,zc⟩) ns.length cr,.bool true])/\
    w'.ownsRow w.heap.size 3 1 (zd (zb ⟨gl,0,zc⟩) ns.length cl) ns.length (tV ns ns.length)/\w'.ownsRow w.heap.size 3 1 (zd (zb ⟨gr,0,zc⟩) ns.length cr) ns.length (tW ns ns.length)/\∀i,i<ns.length->aP (dT ns i)<=(aN ns i).length)):=by
 obtain⟨ao,cap,rfl,hm,hc⟩:=hs;obtain⟨i0,hi,da,dt,cR⟩:=info_parts Tryz.pX
 go_enter func86,ntmps86
 go_wp2
 go_loopw [5,6,7,17] (λl r s i wr=>∃(k gl cl gr cr gs cs:Nat),k<=ns.length/\i=za .i64 k/\l=zd (zb ⟨gl,0,zc⟩) k cl/\r=zd (zb ⟨gr,0,zc⟩) k cr/\s=zd (zb ⟨gs,0,zc⟩) (aN ns k).length cs/\zg w.heap.size w wr/\ztQ wr w.heap.size gl cl gr cr gs cs k (aN ns k).length (tV ns k) (tW ns k) (qH (aN ns k))/\ze (gF ns 0=gF (ns.drop k) (aN ns k).length)/\ze (∀i,i<k->aP (dT ns i)<=(aN ns i).length))
  (λ_ _ _ i _=>ns.length-(intOf i).toNat)
 case atStart=>
  refine⟨0,_,_,_,_,_,_,dz _,rfl,rfl,rfl,rfl,((ax).alloc (by simp) _).alloc (by simp;omega) _,⟨?_,?_,?_,by simp,by simp;omega,by simp⟩,rfl,λi hi=>absurd hi (fw _)⟩
  ·exact((KP _ _).alloc _).alloc _
  ·exact(KH _ _ _ _ (by omega) (by simp)).alloc _
  ·exact KH _ _ _ _ (by omega) (by simp)
 case round=>
  obtain⟨k,gl,cl,gr,cr,gs,cs,hk,rfl,rfl,rfl,rfl,hb,gw,HS,Us⟩:=hrel;have qF:=ztN ns k
  by_cases hlt:k<ns.length
  ·obtain⟨b,o,sv,nd,rfl,Hn,bF,c0,c1,c2,c3,c4,jF⟩:=hc.elem hb hlt;obtain⟨eA,eB,rfl,hsm,wj⟩:=jF;have xi:ze (dT ns k=nd.kind):=by show _=_;unfold dT;rw[Hn.out]
   have HD:ze _:=zo0 ns k hlt (aN ns k).length nd.kind xi.out;have FW:ze (aN ns (k+1)=(aN ns k).take ((aN ns k).length-aP nd.kind)++[k]):=by show _=_;rw[aN,xi.out]
   have HL:ze (pw ns k=if aP nd.kind=0 then -1 else (((aN ns k).getD ((aN ns k).length-aP nd.kind) 0:Nat):Int)):=by show _=_;rw[pw,xi.out]
   have HR:ze (ve ns k=if aP nd.kind=2 then (((aN ns k).getD ((aN ns k).length-1) 0:Nat):Int) else -1):=by show _=_;rw[ve,xi.out]
   have hz:=hb.size;have fW:zg w.heap.size w (wr.alloc (zf #[za .i64 nd.kind,.slice eA nd.set.length eB,za .i64 nd.min,za .i64 nd.max,za .i64 nd.group] 135)):=hb.alloc hz _;obtain⟨zDo,zDp,zDq,zBy⟩:=qd gw.left;obtain⟨zDs,XN,zDt,zBE⟩:=qd gw.right;obtain⟨zDu,zDv,JY,zBG⟩:=qd gw.stack;unfold maxLen at zBy zBE zBG
   by_cases pN:(aN ns k).length<aP nd.kind
   ·have hle:((aN ns k).length:Int)<(aP nd.kind:Int):=by omega
    go_wp2_with (go_at_call 99;refine(TS _ _).mono ?_;rintro e w2 ⟨rfl,rfl⟩)
    go_ret3
    exact⟨fW,.inl ⟨by unfold kL;rw[HS.out,HD.out,af pN];rfl,_,_,rfl⟩⟩
   have gY:ze (gF ns 0=gF (ns.drop (k+1)) (aN ns (k+1)).length):=by
    show _=_;rw[HS.out,HD.out,ab pN,FW.out]
    congr 1
    simp
   have wX:ze (∀i,i<k+1->aP (dT ns i)<=(aN ns i).length):=by
    intro i hi
    by_cases e:i=k
    ·subst e;rw[xi.out];omega
    ·exact Us.out i (by omega)
   rcases(show aP nd.kind=0\/aP nd.kind=1\/aP nd.kind=2 by have:=zr9 nd.kind;omega) with ha|ha|ha
   ·obtain⟨m,hd⟩:∃m,(aN ns k).length=m+0:=⟨_,rfl⟩;have Hd:ze _:=hd;rw[ha,hd]at FW;rw[ha,hd]at HL;rw[ha]at HR;have NU:∀{w1 w2:zh},(wr.alloc (zf #[za .i64 nd.kind,.slice eA nd.set.length eB,za .i64 nd.min,za .i64 nd.max,za .i64 nd.group] 135)).grownBy w1 (zb gl)->w1.grownBy w2 (zb gr)->w2.ownsRow w.heap.size 3 1 (zd (zb ⟨gs,0,zc⟩) m cs) m (qH ((aN ns k).take m)):=by
     intro w1 w2 pR dE;have h0:=ZD (m:=m) (gw.stack.alloc (zf #[za .i64 nd.kind,.slice eA nd.set.length eB,za .i64 nd.min,za .i64 nd.max,za .i64 nd.group] 135)) (by have:=Hd.out;omega);rw[zib]at h0;exact sU (sU h0 pR gw.ls.symm) dE gw.rs.symm
    rw[hd]at JY qF ⊢;have lM:¬((m:Int)+0<0):=by omega
    clear hd
    go_wp2_with (first|(go_at_call 99;refine(TS _ _).mono ?_;rintro e w2 ⟨rfl,rfl⟩;rw[ha])|(refine CL (wr.alloc (zf #[za .i64 nd.kind,.slice eA nd.set.length eB,za .i64 nd.min,za .i64 nd.max,za .i64 nd.group] 135)) (wr.heap.size+1) (by simp) rfl (.tmp 60) (.tmp 62) 23 rfl w.heap.size 3 i0 _ 8 underlying23 hi da dt cR rfl gl cl k (tV ns k) _ rfl (gw.left.alloc _) rfl rfl (by omega) (by omega) fW.size ?_;intro g1 VX w1 wA nD pJ;have uP:=nD.size)|(refine E9 w1 rfl (.tmp 64) (.tmp 66) 23 rfl w.heap.size 3 i0 _ 8 underlying23 hi da dt cR rfl gr cr k (tW ns k) _ rfl (sU (gw.right.alloc _) nD gw.lr.symm) rfl rfl (by omega) (by omega) (cY fW.size uP) ?_;intro g2 c2' w2 nP kx jb;have gy:=kx.size)|(refine E9 w2 rfl (.tmp 68) (.tmp 70) 23 rfl w.heap.size 3 i0 _ 8 underlying23 hi da dt cR rfl gs cs m (qH ((aN ns k).take m)) _ rfl (NU nD kx) rfl rfl (by omega) (by omega) (cY fW.size (cY uP gy)) ?_;intro g3 c3' w3 HU BW DO))
    go_roundw
    case rel=>exact zhF (m:=m) (by simpa using FW.out) (by have:=Hd.out;omega) wA nP HU nD kx BW pJ jb DO (HL.out.trans (by simp)) (HR.out.trans (by simp)) fW rfl gw (by simp;omega) (by simp;omega) gY wX hlt
    case measure=>simp[intOf];omega
   ·obtain⟨m,hd⟩:∃m,(aN ns k).length=m+1:=⟨(aN ns k).length-1,by omega⟩;have Hd:ze _:=hd;obtain⟨x,tS⟩:∃x,(aN ns k).getD m 0=x:=⟨_,rfl⟩;have q0:wr.cell? ⟨gs,m,zc⟩=zb (za .i64 (x:Int)):=by rw[gw.stack.cellAt m (by omega),zki _ _ (by omega),tS]
    rw[ha,hd]at FW;rw[ha,hd]at HL;rw[ha]at HR;have NU:∀{w1 w2:zh},(wr.alloc (zf #[za .i64 nd.kind,.slice eA nd.set.length eB,za .i64 nd.min,za .i64 nd.max,za .i64 nd.group] 135)).grownBy w1 (zb gl)->w1.grownBy w2 (zb gr)->w2.ownsRow w.heap.size 3 1 (zd (zb ⟨gs,0,zc⟩) m cs) m (qH ((aN ns k).take m)):=by
     intro w1 w2 pR dE;have h0:=ZD (m:=m) (gw.stack.alloc (zf #[za .i64 nd.kind,.slice eA nd.set.length eB,za .i64 nd.min,za .i64 nd.max,za .i64 nd.group] 135)) (by have:=Hd.out;omega);rw[zib]at h0;exact sU (sU h0 pR gw.ls.symm) dE gw.rs.symm
    rw[hd]at JY qF ⊢;have HX:ze _:=tS;clear hd tS
    go_wp2_with (first|(go_at_call 99;refine(TS _ _).mono ?_;rintro e w2 ⟨rfl,rfl⟩;rw[ha])|(refine CL (wr.alloc (zf #[za .i64 nd.kind,.slice eA nd.set.length eB,za .i64 nd.min,za .i64 nd.max,za .i64 nd.group] 135)) (wr.heap.size+1) (by simp) rfl (.tmp 60) (.tmp 62) 23 rfl w.heap.size 3 i0 _ 8 underlying23 hi da dt cR rfl gl cl k (tV ns k) _ rfl (gw.left.alloc _) rfl rfl (by omega) (by omega) fW.size ?_;intro g1 VX w1 wA nD pJ;have uP:=nD.size)|(refine E9 w1 rfl (.tmp 64) (.tmp 66) 23 rfl w.heap.size 3 i0 _ 8 underlying23 hi da dt cR rfl gr cr k (tW ns k) _ rfl (sU (gw.right.alloc _) nD gw.lr.symm) rfl rfl (by omega) (by omega) (cY fW.size uP) ?_;intro g2 c2' w2 nP kx jb;have gy:=kx.size)|(refine E9 w2 rfl (.tmp 68) (.tmp 70) 23 rfl w.heap.size 3 i0 _ 8 underlying23 hi da dt cR rfl gs cs m (qH ((aN ns k).take m)) _ rfl (NU nD kx) rfl rfl (by omega) (by omega) (cY fW.size (cY uP gy)) ?_;intro g3 c3' w3 HU BW DO))
    go_roundw
    case rel=>exact zhF (m:=m) (by have:=FW.out;rw[II]at this;exact this) (by have:=Hd.out;omega) wA nP HU nD kx BW pJ jb DO (HL.out.trans (by rw[ab (by omega),II,HX.out])) (HR.out.trans (by rw[ab (by omega)])) fW rfl gw (by simp;omega) (by simp;omega) gY wX hlt
    case measure=>simp[intOf];omega
   ·obtain⟨m,hd⟩:∃m,(aN ns k).length=m+2:=⟨(aN ns k).length-2,by omega⟩;have Hd:ze _:=hd;obtain⟨x,tS⟩:∃x,(aN ns k).getD m 0=x:=⟨_,rfl⟩;have q0:wr.cell? ⟨gs,m,zc⟩=zb (za .i64 (x:Int)):=by rw[gw.stack.cellAt m (by omega),zki _ _ (by omega),tS]
    obtain⟨y,Hs⟩:∃y,(aN ns k).getD (m+1) 0=y:=⟨_,rfl⟩;have q1:wr.cell? ⟨gs,m+1,zc⟩=zb (za .i64 (y:Int)):=by rw[gw.stack.cellAt (m+1) (by omega),zki _ _ (by omega),Hs]
    rw[ha,hd]at FW;rw[ha,hd]at HL;rw[ha,hd]at HR;have NU:∀{w1 w2:zh},(wr.alloc (zf #[za .i64 nd.kind,.slice eA nd.set.length eB,za .i64 nd.min,za .i64 nd.max,za .i64 nd.group] 135)).grownBy w1 (zb gl)->w1.grownBy w2 (zb gr)->w2.ownsRow w.heap.size 3 1 (zd (zb ⟨gs,0,zc⟩) m cs) m (qH ((aN ns k).take m)):=by
     intro w1 w2 pR dE;have h0:=ZD (m:=m) (gw.stack.alloc (zf #[za .i64 nd.kind,.slice eA nd.set.length eB,za .i64 nd.min,za .i64 nd.max,za .i64 nd.group] 135)) (by have:=Hd.out;omega);rw[zib]at h0;exact sU (sU h0 pR gw.ls.symm) dE gw.rs.symm
    rw[hd]at JY qF ⊢;have HX:ze _:=tS;have HY:ze _:=Hs;clear hd tS Hs
    go_wp2_with (first|(go_at_call 99;refine(TS _ _).mono ?_;rintro e w2 ⟨rfl,rfl⟩;rw[ha])|(refine CL (wr.alloc (zf #[za .i64 nd.kind,.slice eA nd.set.length eB,za .i64 nd.min,za .i64 nd.max,za .i64 nd.group] 135)) (wr.heap.size+1) (by simp) rfl (.tmp 60) (.tmp 62) 23 rfl w.heap.size 3 i0 _ 8 underlying23 hi da dt cR rfl gl cl k (tV ns k) _ rfl (gw.left.alloc _) rfl rfl (by omega) (by omega) fW.size ?_;intro g1 VX w1 wA nD pJ;have uP:=nD.size)|(refine E9 w1 rfl (.tmp 64) (.tmp 66) 23 rfl w.heap.size 3 i0 _ 8 underlying23 hi da dt cR rfl gr cr k (tW ns k) _ rfl (sU (gw.right.alloc _) nD gw.lr.symm) rfl rfl (by omega) (by omega) (cY fW.size uP) ?_;intro g2 c2' w2 nP kx jb;have gy:=kx.size)|(refine E9 w2 rfl (.tmp 68) (.tmp 70) 23 rfl w.heap.size 3 i0 _ 8 underlying23 hi da dt cR rfl gs cs m (qH ((aN ns k).take m)) _ rfl (NU nD kx) rfl rfl (by omega) (by omega) (cY fW.size (cY uP gy)) ?_;intro g3 c3' w3 HU BW DO))
    go_roundw
    case rel=>exact zhF (m:=m) (by have:=FW.out;rw[II]at this;exact this) (by have:=Hd.out;omega) wA nP HU nD kx BW pJ jb DO (HL.out.trans (by rw[ab (by omega),II,HX.out])) (HR.out.trans (by rw[af (by trivial),show m+2-1=m+1 by omega,HY.out])) fW rfl gw (by simp;omega) (by simp;omega) gY wX hlt
    case measure=>simp[intOf];omega
  ·have cC:k=ns.length:=by omega
   have EF:ns.drop k=[]:=Bn (by omega);rw[EF]at HS;have UX:ze (kL ns=((((aN ns k).length:Nat):Int)==1)):=by
    show _=_;unfold kL;rw[HS.out,gF]
    by_cases h:(aN ns k).length=1
    ·rw[h];rfl
    ·have h1:((((aN ns k).length:Nat):Int)==1)=false:=lY.2 (by omega);rw[h1];simp[h]
   have HP:ze (∀e,e=Ending.returned (.tuple #[zd (zb ⟨gl,0,zc⟩) k cl,zd (zb ⟨gr,0,zc⟩) k cr,.bool ((((aN ns k).length:Nat):Int)==1)])->((kL ns=false/\∃lv rv,e=.returned (.tuple #[lv,rv,.bool false]))\/
   (kL ns=true/\∃gl cl gr cr,e=.returned (.tuple #[zd (zb ⟨gl,0,zc⟩) ns.length cl,zd (zb ⟨gr,0,zc⟩) ns.length cr,.bool true])/\
    wr.ownsRow w.heap.size 3 1 (zd (zb ⟨gl,0,zc⟩) ns.length cl) ns.length (tV ns ns.length)/\wr.ownsRow w.heap.size 3 1 (zd (zb ⟨gr,0,zc⟩) ns.length cr) ns.length (tW ns ns.length)/\∀i,i<ns.length->aP (dT ns i)<=(aN ns i).length))):=by
    intro e he;cases h:((((aN ns k).length:Nat):Int)==1)
    ·rw[h]at he;exact .inl ⟨UX.out.trans h,_,_,he⟩
    ·rw[h]at he;rw[cC]at he gw Us;exact .inr ⟨by rw[UX.out,<-h],gl,cl,gr,cr,he,gw.left,gw.right,Us.out⟩
   have fX:¬k<ns.length:=by omega
   clear cC EF UX gw;go_wp2
   go_ret3
   exact⟨hb,HP.out _ rfl⟩
end Go.Proofs.YtfajjdgkiilhfaaGreatDoor
