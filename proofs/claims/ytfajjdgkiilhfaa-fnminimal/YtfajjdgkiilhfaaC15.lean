import Derived.Test.YtfajjdgkiilhfaaC14
namespace Go.Proofs.Ytfajjdgkiilhfaa
open Proofs.Try
open Value renaming int->za,slice->zn
open Option renaming some->zh,none->zi
open RowKit renaming Hid->zp,Below->zx
open Obj renaming cells->zw
open Go renaming World->zy,Value->zB
set_option maxHeartbeats 4000000
set_option maxRecDepth 100000
open Go.RowKit
variable {w:zy}{B g2:Nat}
def dK(ns:List aI)(i:Nat):Int:=(ns.getD i .zero).kind
def aQ(ns:List aI):Nat->List Nat
 |0=>[]
 |i+1=>(aQ ns i).take ((aQ ns i).length-aV (dK ns i))++[i]
def pD(ns:List aI)(i:Nat):Int:=if aV (dK ns i)=0 then -1 else ((aQ ns i).getD ((aQ ns i).length-aV (dK ns i)) 0:Nat)
def vy(ns:List aI)(i:Nat):Int:=if aV (dK ns i)=2 then ((aQ ns i).getD ((aQ ns i).length-1) 0:Nat) else -1
def gD:List aI->Nat->Option Nat
 |[],d=>zh d
 |n::ns,d=>if d<aV n.kind then zi else gD ns (d-aV n.kind+1)
def kP(ns:List aI):Bool:=gD ns 0==zh 1
theorem znC(ns:List aI)(i:Nat)(hi:i<ns.length)(d:Nat)(kd:Int)(h:dK ns i=kd):gD (ns.drop i) d=if d<aV kd then zi else gD (ns.drop (i+1)) (d-aV kd+1):=by
 rw[JP hi];have:ns[i].kind=kd:=by rw[<-h];simp[dK,List.getD,hi]
 rw[gD,this]
theorem zpR(ns:List aI)(i:Nat):(aQ ns (i+1)).length=(aQ ns i).length-aV (dK ns i)+1:=by
 simp[aQ]
theorem zrY(ns:List aI):∀i,(aQ ns i).length<=i
 |0=>ax _
 |i+1=>by have:=zrY ns i;rw[zpR];omega
theorem Qr(ns:List aI):∀i,∀j∈aQ ns i,j<i
 |0,j,h=>by simp[aQ]at h
 |i+1,j,h=>by
  unfold aQ at h;rcases gH.1 h with h|h
  ·exact Nat.lt_succ_of_lt (Qr ns i j (List.mem_of_mem_take h))
  ·simp at h;omega
def ui(ns:List aI)(k:Nat):List zB:=(List.range k).map λi=>za .i64 (pD ns i)
def uj(ns:List aI)(k:Nat):List zB:=(List.range k).map λi=>za .i64 (vy ns i)
def qG(l:List Nat):List zB:=l.map λj:Nat=>za .i64 (j:Int)
theorem zpF(ns:List aI)(k:Nat):ui ns (k+1)=ui ns k++[za .i64 (pD ns k)]:=by simp[ui,List.range_succ]
theorem zpG(ns:List aI)(k:Nat):uj ns (k+1)=uj ns k++[za .i64 (vy ns k)]:=by simp[uj,List.range_succ]
theorem zhr(l:List Nat)(m:Nat):(qG l).take m=qG (l.take m):=by simp[qG,List.map_take]
theorem zpH(l:List Nat)(j:Nat):qG (l++[j])=qG l++[za .i64 (j:Int)]:=by simp[qG]
theorem zjt(l:List Nat)(i:Nat)(h:i<l.length):(qG l)[i]?=zh (za .i64 ((l.getD i 0:Nat):Int)):=by simp[qG,h,List.getD]
structure zr2(w:zy)(B:Nat)(gl cl gr cr gs cs k d:Nat)(L R S:List zB):Prop where
 left:w.ownsRow B 3 1 (zn (zh ⟨gl,0,zi⟩) k cl) k L
 right:w.ownsRow B 3 1 (zn (zh ⟨gr,0,zi⟩) k cr) k R
 stack:w.ownsRow B 3 1 (zn (zh ⟨gs,0,zi⟩) d cs) d S
 lr:gl≠gr
 ls:gl≠gs
 rs:gr≠gs
theorem s7{w':zy}{g cap n:Nat}{xs:List zB}(h:w.ownsRow B 3 1 (zn (zh ⟨g,0,zi⟩) n cap) n xs)(hg:w.grownBy w' (zh g2))(hne:g≠g2):w'.ownsRow B 3 1 (zn (zh ⟨g,0,zi⟩) n cap) n xs:=
 h.kept hg (.inr (by simp[Value.ownBlock];exact hne))
theorem zg5{ns:List aI}{k m gl cl gr cr gs cs g1 c1 c2 g3 c3:Nat}{wr W w1 w2 w3:zy}{lf rt:Int}
  (hst:aQ ns (k+1)=(aQ ns k).take m++[k]) (hm:m<=(aQ ns k).length)
  (AR:w1.ownsRow B 3 1 (zn (zh ⟨g1,0,zi⟩) (k+1) c1) (k+1) (ui ns k++[za .i64 lf])) (pz:w2.ownsRow B 3 1 (zn (zh ⟨g2,0,zi⟩) (k+1) c2) (k+1) (uj ns k++[za .i64 rt]))
  (Ji:w3.ownsRow B 3 1 (zn (zh ⟨g3,0,zi⟩) (m+1) c3) (m+1) (qG ((aQ ns k).take m)++[za .i64 (k:Int)]))
  (pd:W.grownBy w1 (zh gl)) (kD:w1.grownBy w2 (zh gr)) (C6:w2.grownBy w3 (zh gs)) (qs:g1=gl\/g1=W.heap.size+1) (kC:g2=gr\/g2=w1.heap.size+1) (EK:g3=gs\/g3=w2.heap.size+1)
  (hl:pD ns k=lf) (hr:vy ns k=rt) (gP:zx w.heap.size w W) (hB:B=w.heap.size) (fZ:zr2 wr B gl cl gr cr gs cs k (aQ ns k).length (ui ns k) (uj ns k) (qG (aQ ns k))) (kZ:gr<W.heap.size) (yD:gs<W.heap.size)
  (fS:zp (gD ns 0=gD (ns.drop (k+1)) (aQ ns (k+1)).length)) (MJ:zp (∀i,i<k+1->aV (dK ns i)<=(aQ ns i).length)) (hlt:k<ns.length):
  ∃(k' gl cl gr cr gs cs:Nat),k'<=ns.length/\Value.int .i64 ((k:Int)+1)=za .i64 k'/\Value.slice (zh ⟨g1,0,zi⟩) (k+1) c1=zn (zh ⟨gl,0,zi⟩) k' cl/\Value.slice (zh ⟨g2,0,zi⟩) (k+1) c2=zn (zh ⟨gr,0,zi⟩) k' cr/\Value.slice (zh ⟨g3,0,zi⟩) (m+1) c3=zn (zh ⟨gs,0,zi⟩) (aQ ns k').length cs/\zx w.heap.size w w3/\zr2 w3 w.heap.size gl cl gr cr gs cs k' (aQ ns k').length (ui ns k') (uj ns k') (qG (aQ ns k'))/\zp (gD ns 0=gD (ns.drop k') (aQ ns k').length)/\zp (∀i,i<k'->aV (dK ns i)<=(aQ ns i).length):=by
 subst hB;have hlen:(aQ ns (k+1)).length=m+1:=by rw[hst];simp;omega
 obtain⟨aP,_,_,_⟩:=nW fZ.left;obtain⟨aL,_,_,_⟩:=nW fZ.right;obtain⟨cN,_,_,_⟩:=nW fZ.stack;have s1:=pd.size;have s2:=kD.size;have f1:=(nW AR).2.1;have f2:=(nW pz).2.1;have b1:zx w.heap.size w w1:=gP.grown pd gP.size (by intro q hq;cases hq;exact aP);have b2:zx w.heap.size w w2:=b1.grown kD b1.size (by intro q hq;cases hq;exact aL);have b3:zx w.heap.size w w3:=b2.grown C6 b2.size (by intro q hq;cases hq;exact cN);have n1r:g1≠gr:=by have:=fZ.lr;rcases qs with h|h<;>omega
 have n1s:g1≠gs:=by have:=fZ.ls;rcases qs with h|h<;>omega
 have n2s:g2≠gs:=by have:=fZ.rs;rcases kC with h|h<;>omega
 have Tk:g1≠g2:=by rcases kC with h|h<;>omega
 refine⟨k+1,g1,c1,g2,c2,g3,c3,by omega,by go_num,rfl,rfl,by rw[hlen],b3,⟨?_,?_,?_,Tk,?_,?_⟩,fS,MJ⟩
 ·rw[zpF,hl];exact s7 (s7 AR kD n1r) C6 n1s
 ·rw[zpG,hr];exact s7 pz C6 n2s
 ·rw[hlen,hst,zpH];exact Ji
 ·rcases EK with h|h<;>omega
 ·rcases EK with h|h<;>omega
theorem zlH{lo:Nat}(v:zB)(ns:List aI)(w:zy)(hs:nX lo w v ns)(hn:ns.length<=1048576):
  Calls prog 75 #[v] w λe w'=>zx w.heap.size w w'/\((kP ns=false/\∃lv rv,e=.returned (.tuple #[lv,rv,.bool false]))\/
   (kP ns=true/\∃gl cl gr cr,e=.returned (.tuple #[zn (zh ⟨gl,0,zi⟩) ns.length cl,zn (zh ⟨gr,0,zi⟩) ns.length cr,.bool true])/\
    w'.ownsRow w.heap.size 3 1 (zn (zh ⟨gl,0,zi⟩) ns.length cl) ns.length (ui ns ns.length)/\w'.ownsRow w.heap.size 3 1 (zn (zh ⟨gr,0,zi⟩) ns.length cr) ns.length (uj ns ns.length)/\∀i,i<ns.length->aV (dK ns i)<=(aQ ns i).length)):=by
 obtain⟨ao,cap,rfl,hm,hc⟩:=hs;obtain⟨i0,hi,eQ,eR,dR⟩:=info_parts Try.wP
 go_enter func75,ntmps75
 go_wp2
 go_loopw [5,6,7,17] (λl r s i wr=>∃(k gl cl gr cr gs cs:Nat),k<=ns.length/\i=za .i64 k/\l=zn (zh ⟨gl,0,zi⟩) k cl/\r=zn (zh ⟨gr,0,zi⟩) k cr/\s=zn (zh ⟨gs,0,zi⟩) (aQ ns k).length cs/\zx w.heap.size w wr/\zr2 wr w.heap.size gl cl gr cr gs cs k (aQ ns k).length (ui ns k) (uj ns k) (qG (aQ ns k))/\zp (gD ns 0=gD (ns.drop k) (aQ ns k).length)/\zp (∀i,i<k->aV (dK ns i)<=(aQ ns i).length))
  (λ_ _ _ i _=>ns.length-(intOf i).toNat)
 case atStart=>
  refine⟨0,_,_,_,_,_,_,bH _,rfl,rfl,rfl,rfl,((aC).alloc (by simp) _).alloc (by simp;omega) _,⟨?_,?_,?_,by simp,by simp;omega,by simp⟩,rfl,λi hi=>absurd hi (dP _)⟩
  ·exact((Js _ _).alloc _).alloc _
  ·exact(zdw _ _ _ _ (by omega) (by simp)).alloc _
  ·exact zdw _ _ _ _ (by omega) (by simp)
 case round=>
  obtain⟨k,gl,cl,gr,cr,gs,cs,hk,rfl,rfl,rfl,rfl,hb,fZ,HS,MK⟩:=hrel;have wI:=zrY ns k
  by_cases hlt:k<ns.length
  ·obtain⟨b,o,sv,nd,rfl,Hn,cQ,c0,c1,c2,c3,c4,jr⟩:=hc.elem hb hlt;obtain⟨dU,dV,rfl,hsm,wH⟩:=jr;have xS:zp (dK ns k=nd.kind):=by show _=_;unfold dK;rw[Hn.out]
   have HD:zp _:=znC ns k hlt (aQ ns k).length nd.kind xS.out;have G1:zp (aQ ns (k+1)=(aQ ns k).take ((aQ ns k).length-aV nd.kind)++[k]):=by show _=_;rw[aQ,xS.out]
   have HL:zp (pD ns k=if aV nd.kind=0 then -1 else (((aQ ns k).getD ((aQ ns k).length-aV nd.kind) 0:Nat):Int)):=by show _=_;rw[pD,xS.out]
   have HR:zp (vy ns k=if aV nd.kind=2 then (((aQ ns k).getD ((aQ ns k).length-1) 0:Nat):Int) else -1):=by show _=_;rw[vy,xS.out]
   have hz:=hb.size;have gP:zx w.heap.size w (wr.alloc (zw #[za .i64 nd.kind,.slice dU nd.set.length dV,za .i64 nd.min,za .i64 nd.max,za .i64 nd.group] 125)):=hb.alloc hz _;obtain⟨zCl,zCm,zCn,zAl⟩:=nW fZ.left;obtain⟨zCp,YF,zCq,zAr⟩:=nW fZ.right;obtain⟨zCr,zCs,Lj,zAt⟩:=nW fZ.stack;unfold maxLen at zAl zAr zAt
   by_cases pM:(aQ ns k).length<aV nd.kind
   ·have hle:((aQ ns k).length:Int)<(aV nd.kind:Int):=by omega
    go_wp2_with (go_at_call 88;refine(T7 _ _).mono ?_;rintro e w2 ⟨rfl,rfl⟩)
    go_ret3
    exact⟨gP,.inl ⟨by unfold kP;rw[HS.out,HD.out,ae pM];rfl,_,_,rfl⟩⟩
   have fS:zp (gD ns 0=gD (ns.drop (k+1)) (aQ ns (k+1)).length):=by
    show _=_;rw[HS.out,HD.out,ab pM,G1.out]
    congr 1
    simp
   have MJ:zp (∀i,i<k+1->aV (dK ns i)<=(aQ ns i).length):=by
    intro i hi
    by_cases e:i=k
    ·subst e;rw[xS.out];omega
    ·exact MK.out i (by omega)
   rcases(show aV nd.kind=0\/aV nd.kind=1\/aV nd.kind=2 by have:=zql nd.kind;omega) with ha|ha|ha
   ·obtain⟨m,hd⟩:∃m,(aQ ns k).length=m+0:=⟨_,rfl⟩;have Hd:zp _:=hd;rw[ha,hd]at G1;rw[ha,hd]at HL;rw[ha]at HR;have OZ:∀{w1 w2:zy},(wr.alloc (zw #[za .i64 nd.kind,.slice dU nd.set.length dV,za .i64 nd.min,za .i64 nd.max,za .i64 nd.group] 125)).grownBy w1 (zh gl)->w1.grownBy w2 (zh gr)->w2.ownsRow w.heap.size 3 1 (zn (zh ⟨gs,0,zi⟩) m cs) m (qG ((aQ ns k).take m)):=by
     intro w1 w2 ot dH;have h0:=zeg (m:=m) (fZ.stack.alloc (zw #[za .i64 nd.kind,.slice dU nd.set.length dV,za .i64 nd.min,za .i64 nd.max,za .i64 nd.group] 125)) (by have:=Hd.out;omega);rw[zhr]at h0;exact s7 (s7 h0 ot fZ.ls.symm) dH fZ.rs.symm
    rw[hd]at Lj wI ⊢;have gz:¬((m:Int)+0<0):=by omega
    clear hd
    go_wp2_with (first|(go_at_call 88;refine(T7 _ _).mono ?_;rintro e w2 ⟨rfl,rfl⟩;rw[ha])|(refine AZ (wr.alloc (zw #[za .i64 nd.kind,.slice dU nd.set.length dV,za .i64 nd.min,za .i64 nd.max,za .i64 nd.group] 125)) (wr.heap.size+1) (by simp) rfl (.tmp 60) (.tmp 62) 23 rfl w.heap.size 3 i0 _ 8 underlying23 hi eQ eR dR rfl gl cl k (ui ns k) _ rfl (fZ.left.alloc _) rfl rfl (by omega) (by omega) gP.size ?_;intro g1 Ky w1 AR pd qs;have DA:=pd.size)|(refine F9 w1 rfl (.tmp 64) (.tmp 66) 23 rfl w.heap.size 3 i0 _ 8 underlying23 hi eQ eR dR rfl gr cr k (uj ns k) _ rfl (s7 (fZ.right.alloc _) pd fZ.lr.symm) rfl rfl (by omega) (by omega) (cM gP.size DA) ?_;intro g2 NB w2 pz kD kC;have iE:=kD.size)|(refine F9 w2 rfl (.tmp 68) (.tmp 70) 23 rfl w.heap.size 3 i0 _ 8 underlying23 hi eQ eR dR rfl gs cs m (qG ((aQ ns k).take m)) _ rfl (OZ pd kD) rfl rfl (by omega) (by omega) (cM gP.size (cM DA iE)) ?_;intro g3 Ru w3 Ji C6 EK))
    go_roundw
    case rel=>exact zg5 (m:=m) (by simpa using G1.out) (by have:=Hd.out;omega) AR pz Ji pd kD C6 qs kC EK (HL.out.trans (by simp)) (HR.out.trans (by simp)) gP rfl fZ (by simp;omega) (by simp;omega) fS MJ hlt
    case measure=>simp[intOf];omega
   ·obtain⟨m,hd⟩:∃m,(aQ ns k).length=m+1:=⟨(aQ ns k).length-1,by omega⟩;have Hd:zp _:=hd;obtain⟨x,uf⟩:∃x,(aQ ns k).getD m 0=x:=⟨_,rfl⟩;have q0:wr.cell? ⟨gs,m,zi⟩=zh (za .i64 (x:Int)):=by rw[fZ.stack.cellAt m (by omega),zjt _ _ (by omega),uf]
    rw[ha,hd]at G1;rw[ha,hd]at HL;rw[ha]at HR;have OZ:∀{w1 w2:zy},(wr.alloc (zw #[za .i64 nd.kind,.slice dU nd.set.length dV,za .i64 nd.min,za .i64 nd.max,za .i64 nd.group] 125)).grownBy w1 (zh gl)->w1.grownBy w2 (zh gr)->w2.ownsRow w.heap.size 3 1 (zn (zh ⟨gs,0,zi⟩) m cs) m (qG ((aQ ns k).take m)):=by
     intro w1 w2 ot dH;have h0:=zeg (m:=m) (fZ.stack.alloc (zw #[za .i64 nd.kind,.slice dU nd.set.length dV,za .i64 nd.min,za .i64 nd.max,za .i64 nd.group] 125)) (by have:=Hd.out;omega);rw[zhr]at h0;exact s7 (s7 h0 ot fZ.ls.symm) dH fZ.rs.symm
    rw[hd]at Lj wI ⊢;have HX:zp _:=uf;clear hd uf
    go_wp2_with (first|(go_at_call 88;refine(T7 _ _).mono ?_;rintro e w2 ⟨rfl,rfl⟩;rw[ha])|(refine AZ (wr.alloc (zw #[za .i64 nd.kind,.slice dU nd.set.length dV,za .i64 nd.min,za .i64 nd.max,za .i64 nd.group] 125)) (wr.heap.size+1) (by simp) rfl (.tmp 60) (.tmp 62) 23 rfl w.heap.size 3 i0 _ 8 underlying23 hi eQ eR dR rfl gl cl k (ui ns k) _ rfl (fZ.left.alloc _) rfl rfl (by omega) (by omega) gP.size ?_;intro g1 Ky w1 AR pd qs;have DA:=pd.size)|(refine F9 w1 rfl (.tmp 64) (.tmp 66) 23 rfl w.heap.size 3 i0 _ 8 underlying23 hi eQ eR dR rfl gr cr k (uj ns k) _ rfl (s7 (fZ.right.alloc _) pd fZ.lr.symm) rfl rfl (by omega) (by omega) (cM gP.size DA) ?_;intro g2 NB w2 pz kD kC;have iE:=kD.size)|(refine F9 w2 rfl (.tmp 68) (.tmp 70) 23 rfl w.heap.size 3 i0 _ 8 underlying23 hi eQ eR dR rfl gs cs m (qG ((aQ ns k).take m)) _ rfl (OZ pd kD) rfl rfl (by omega) (by omega) (cM gP.size (cM DA iE)) ?_;intro g3 Ru w3 Ji C6 EK))
    go_roundw
    case rel=>exact zg5 (m:=m) (by have:=G1.out;rw[Ek]at this;exact this) (by have:=Hd.out;omega) AR pz Ji pd kD C6 qs kC EK (HL.out.trans (by rw[ab (by omega),Ek,HX.out])) (HR.out.trans (by rw[ab (by omega)])) gP rfl fZ (by simp;omega) (by simp;omega) fS MJ hlt
    case measure=>simp[intOf];omega
   ·obtain⟨m,hd⟩:∃m,(aQ ns k).length=m+2:=⟨(aQ ns k).length-2,by omega⟩;have Hd:zp _:=hd;obtain⟨x,uf⟩:∃x,(aQ ns k).getD m 0=x:=⟨_,rfl⟩;have q0:wr.cell? ⟨gs,m,zi⟩=zh (za .i64 (x:Int)):=by rw[fZ.stack.cellAt m (by omega),zjt _ _ (by omega),uf]
    obtain⟨y,Je⟩:∃y,(aQ ns k).getD (m+1) 0=y:=⟨_,rfl⟩;have q1:wr.cell? ⟨gs,m+1,zi⟩=zh (za .i64 (y:Int)):=by rw[fZ.stack.cellAt (m+1) (by omega),zjt _ _ (by omega),Je]
    rw[ha,hd]at G1;rw[ha,hd]at HL;rw[ha,hd]at HR;have OZ:∀{w1 w2:zy},(wr.alloc (zw #[za .i64 nd.kind,.slice dU nd.set.length dV,za .i64 nd.min,za .i64 nd.max,za .i64 nd.group] 125)).grownBy w1 (zh gl)->w1.grownBy w2 (zh gr)->w2.ownsRow w.heap.size 3 1 (zn (zh ⟨gs,0,zi⟩) m cs) m (qG ((aQ ns k).take m)):=by
     intro w1 w2 ot dH;have h0:=zeg (m:=m) (fZ.stack.alloc (zw #[za .i64 nd.kind,.slice dU nd.set.length dV,za .i64 nd.min,za .i64 nd.max,za .i64 nd.group] 125)) (by have:=Hd.out;omega);rw[zhr]at h0;exact s7 (s7 h0 ot fZ.ls.symm) dH fZ.rs.symm
    rw[hd]at Lj wI ⊢;have HX:zp _:=uf;have HY:zp _:=Je;clear hd uf Je
    go_wp2_with (first|(go_at_call 88;refine(T7 _ _).mono ?_;rintro e w2 ⟨rfl,rfl⟩;rw[ha])|(refine AZ (wr.alloc (zw #[za .i64 nd.kind,.slice dU nd.set.length dV,za .i64 nd.min,za .i64 nd.max,za .i64 nd.group] 125)) (wr.heap.size+1) (by simp) rfl (.tmp 60) (.tmp 62) 23 rfl w.heap.size 3 i0 _ 8 underlying23 hi eQ eR dR rfl gl cl k (ui ns k) _ rfl (fZ.left.alloc _) rfl rfl (by omega) (by omega) gP.size ?_;intro g1 Ky w1 AR pd qs;have DA:=pd.size)|(refine F9 w1 rfl (.tmp 64) (.tmp 66) 23 rfl w.heap.size 3 i0 _ 8 underlying23 hi eQ eR dR rfl gr cr k (uj ns k) _ rfl (s7 (fZ.right.alloc _) pd fZ.lr.symm) rfl rfl (by omega) (by omega) (cM gP.size DA) ?_;intro g2 NB w2 pz kD kC;have iE:=kD.size)|(refine F9 w2 rfl (.tmp 68) (.tmp 70) 23 rfl w.heap.size 3 i0 _ 8 underlying23 hi eQ eR dR rfl gs cs m (qG ((aQ ns k).take m)) _ rfl (OZ pd kD) rfl rfl (by omega) (by omega) (cM gP.size (cM DA iE)) ?_;intro g3 Ru w3 Ji C6 EK))
    go_roundw
    case rel=>exact zg5 (m:=m) (by have:=G1.out;rw[Ek]at this;exact this) (by have:=Hd.out;omega) AR pz Ji pd kD C6 qs kC EK (HL.out.trans (by rw[ab (by omega),Ek,HX.out])) (HR.out.trans (by rw[ae (by trivial),show m+2-1=m+1 by omega,HY.out])) gP rfl fZ (by simp;omega) (by simp;omega) fS MJ hlt
    case measure=>simp[intOf];omega
  ·have cI:k=ns.length:=by omega
   have zxE:ns.drop k=[]:=Em (by omega);rw[zxE]at HS;have Vg:zp (kP ns=((((aQ ns k).length:Nat):Int)==1)):=by
    show _=_;unfold kP;rw[HS.out,gD]
    by_cases h:(aQ ns k).length=1
    ·rw[h];rfl
    ·have h1:((((aQ ns k).length:Nat):Int)==1)=false:=lX.2 (by omega);rw[h1];simp[h]
   have HP:zp (∀e,e=Ending.returned (.tuple #[zn (zh ⟨gl,0,zi⟩) k cl,zn (zh ⟨gr,0,zi⟩) k cr,.bool ((((aQ ns k).length:Nat):Int)==1)])->((kP ns=false/\∃lv rv,e=.returned (.tuple #[lv,rv,.bool false]))\/
   (kP ns=true/\∃gl cl gr cr,e=.returned (.tuple #[zn (zh ⟨gl,0,zi⟩) ns.length cl,zn (zh ⟨gr,0,zi⟩) ns.length cr,.bool true])/\
    wr.ownsRow w.heap.size 3 1 (zn (zh ⟨gl,0,zi⟩) ns.length cl) ns.length (ui ns ns.length)/\wr.ownsRow w.heap.size 3 1 (zn (zh ⟨gr,0,zi⟩) ns.length cr) ns.length (uj ns ns.length)/\∀i,i<ns.length->aV (dK ns i)<=(aQ ns i).length))):=by
    intro e he;cases h:((((aQ ns k).length:Nat):Int)==1)
    ·rw[h]at he;exact .inl ⟨Vg.out.trans h,_,_,he⟩
    ·rw[h]at he;rw[cI]at he fZ MK;exact .inr ⟨by rw[Vg.out,<-h],gl,cl,gr,cr,he,fZ.left,fZ.right,MK.out⟩
   have eK:¬k<ns.length:=by omega
   clear cI zxE Vg fZ;go_wp2
   go_ret3
   exact⟨hb,HP.out _ rfl⟩
end Go.Proofs.Ytfajjdgkiilhfaa
