import Derived.Test.YtdimhpfiieepiaaGreatDoorC7
namespace Go.Proofs.YtdimhpfiieepiaaGreatDoor
open Proofs.Tryz
open Value renaming int->za,slice->zd
open Option renaming some->zb,none->zc
open RowKit renaming Hid->ze,Below->zg
open Obj renaming cells->zf
open Go renaming World->zh,Value->zi
set_option maxHeartbeats 4000000
set_option maxRecDepth 100000
open Go.RowKit
variable {w:zh}{B g2:Nat}
def bJ(ns:List aM)(i:Nat):Int:=(ns.getD i .zero).kind
def aN(ns:List aM):Nat->List Nat
 |0=>[]
 |i+1=>(aN ns i).take ((aN ns i).length-bi (bJ ns i))++[i]
def lh(ns:List aM)(i:Nat):Int:=if bi (bJ ns i)=0 then -1 else ((aN ns i).getD ((aN ns i).length-bi (bJ ns i)) 0:Nat)
def oh(ns:List aM)(i:Nat):Int:=if bi (bJ ns i)=2 then ((aN ns i).getD ((aN ns i).length-1) 0:Nat) else -1
def nB:List aM->Nat->Option Nat
 |[],d=>zb d
 |n::ns,d=>if d<bi n.kind then zc else nB ns (d-bi n.kind+1)
def jW(ns:List aM):Bool:=nB ns 0==zb 1
theorem zhY(ns:List aM)(i:Nat)(hi:i<ns.length)(d:Nat)(kd:Int)(h:bJ ns i=kd):nB (ns.drop i) d=if d<bi kd then zc else nB (ns.drop (i+1)) (d-bi kd+1):=by
 rw[oC hi];have:ns[i].kind=kd:=by rw[<-h];simp[bJ,List.getD,hi]
 rw[nB,this]
theorem WC(ns:List aM)(i:Nat):(aN ns (i+1)).length=(aN ns i).length-bi (bJ ns i)+1:=by
 simp[aN]
theorem zsk(ns:List aM):∀i,(aN ns i).length<=i
 |0=>ai _
 |i+1=>by have:=zsk ns i;rw[WC];omega
theorem Mm(ns:List aM):∀i,∀j∈aN ns i,j<i
 |0,j,h=>by simp[aN]at h
 |i+1,j,h=>by
  unfold aN at h;rcases er.1 h with h|h
  ·exact Nat.lt_succ_of_lt (Mm ns i j (List.mem_of_mem_take h))
  ·simp at h;omega
def rV(ns:List aM)(k:Nat):List zi:=(List.range k).map λi=>za .i64 (lh ns i)
def rW(ns:List aM)(k:Nat):List zi:=(List.range k).map λi=>za .i64 (oh ns i)
def kZ(l:List Nat):List zi:=l.map λj:Nat=>za .i64 (j:Int)
theorem zp0(ns:List aM)(k:Nat):rV ns (k+1)=rV ns k++[za .i64 (lh ns k)]:=by simp[rV,List.range_succ]
theorem zp1(ns:List aM)(k:Nat):rW ns (k+1)=rW ns k++[za .i64 (oh ns k)]:=by simp[rW,List.range_succ]
theorem V0(l:List Nat)(m:Nat):(kZ l).take m=kZ (l.take m):=by simp[kZ,List.map_take]
theorem zp2(l:List Nat)(j:Nat):kZ (l++[j])=kZ l++[za .i64 (j:Int)]:=by simp[kZ]
theorem Wc(l:List Nat)(i:Nat)(h:i<l.length):(kZ l)[i]?=zb (za .i64 ((l.getD i 0:Nat):Int)):=by simp[kZ,h,List.getD]
structure Xi(w:zh)(B:Nat)(gl cl gr cr gs cs k d:Nat)(L R S:List zi):Prop where
 left:w.ownsRow B 3 1 (zd (zb ⟨gl,0,zc⟩) k cl) k L
 right:w.ownsRow B 3 1 (zd (zb ⟨gr,0,zc⟩) k cr) k R
 stack:w.ownsRow B 3 1 (zd (zb ⟨gs,0,zc⟩) d cs) d S
 lr:gl≠gr
 ls:gl≠gs
 rs:gr≠gs
theorem qP{w':zh}{g cap n:Nat}{xs:List zi}(h:w.ownsRow B 3 1 (zd (zb ⟨g,0,zc⟩) n cap) n xs)(hg:w.grownBy w' (zb g2))(hne:g≠g2):w'.ownsRow B 3 1 (zd (zb ⟨g,0,zc⟩) n cap) n xs:=
 h.kept hg (.inr (by simp[Value.ownBlock];exact hne))
theorem VP{ns:List aM}{k m gl cl gr cr gs cs g1 c1 c2 g3 c3:Nat}{wr W w1 w2 w3:zh}{lf rt:Int}
  (hst:aN ns (k+1)=(aN ns k).take m++[k]) (hm:m<=(aN ns k).length)
  (mq:w1.ownsRow B 3 1 (zd (zb ⟨g1,0,zc⟩) (k+1) c1) (k+1) (rV ns k++[za .i64 lf])) (eJ:w2.ownsRow B 3 1 (zd (zb ⟨g2,0,zc⟩) (k+1) c2) (k+1) (rW ns k++[za .i64 rt]))
  (kh:w3.ownsRow B 3 1 (zd (zb ⟨g3,0,zc⟩) (m+1) c3) (m+1) (kZ ((aN ns k).take m)++[za .i64 (k:Int)]))
  (kQ:W.grownBy w1 (zb gl)) (ry:w1.grownBy w2 (zb gr)) (Aj:w2.grownBy w3 (zb gs)) (uh:g1=gl\/g1=W.heap.size+1) (BR:g2=gr\/g2=w1.heap.size+1) (BS:g3=gs\/g3=w2.heap.size+1)
  (hl:lh ns k=lf) (hr:oh ns k=rt) (bB:zg w.heap.size w W) (hB:B=w.heap.size) (fm:Xi wr B gl cl gr cr gs cs k (aN ns k).length (rV ns k) (rW ns k) (kZ (aN ns k))) (cR:gr<W.heap.size) (oW:gs<W.heap.size)
  (fI:ze (nB ns 0=nB (ns.drop (k+1)) (aN ns (k+1)).length)) (IP:ze (∀i,i<k+1->bi (bJ ns i)<=(aN ns i).length)) (hlt:k<ns.length):
  ∃(k' gl cl gr cr gs cs:Nat),k'<=ns.length/\Value.int .i64 ((k:Int)+1)=za .i64 k'/\Value.slice (zb ⟨g1,0,zc⟩) (k+1) c1=zd (zb ⟨gl,0,zc⟩) k' cl/\Value.slice (zb ⟨g2,0,zc⟩) (k+1) c2=zd (zb ⟨gr,0,zc⟩) k' cr/\Value.slice (zb ⟨g3,0,zc⟩) (m+1) c3=zd (zb ⟨gs,0,zc⟩) (aN ns k').length cs/\zg w.heap.size w w3/\Xi w3 w.heap.size gl cl gr cr gs cs k' (aN ns k').length (rV ns k') (rW ns k') (kZ (aN ns k'))/\ze (nB ns 0=nB (ns.drop k') (aN ns k').length)/\ze (∀i,i<k'->bi (bJ ns i)<=(aN ns i).length):=by
 subst hB;have hlen:(aN ns (k+1)).length=m+1:=by rw[hst];simp;omega
 obtain⟨ak,_,_,_⟩:=qc fm.left;obtain⟨af,_,_,_⟩:=qc fm.right;obtain⟨ay,_,_,_⟩:=qc fm.stack;have s1:=kQ.size;have s2:=ry.size;have f1:=(qc mq).2.1;have f2:=(qc eJ).2.1;have b1:zg w.heap.size w w1:=bB.grown kQ bB.size (by intro q hq;cases hq;exact ak);have b2:zg w.heap.size w w2:=b1.grown ry b1.size (by intro q hq;cases hq;exact af);have b3:zg w.heap.size w w3:=b2.grown Aj b2.size (by intro q hq;cases hq;exact ay);have n1r:g1≠gr:=by have:=fm.lr;rcases uh with h|h<;>omega
 have n1s:g1≠gs:=by have:=fm.ls;rcases uh with h|h<;>omega
 have n2s:g2≠gs:=by have:=fm.rs;rcases BR with h|h<;>omega
 have n12:g1≠g2:=by rcases BR with h|h<;>omega
 refine⟨k+1,g1,c1,g2,c2,g3,c3,by omega,by go_num,rfl,rfl,by rw[hlen],b3,⟨?_,?_,?_,n12,?_,?_⟩,fI,IP⟩
 ·rw[zp0,hl];exact qP (qP mq ry n1r) Aj n1s
 ·rw[zp1,hr];exact qP eJ Aj n2s
 ·rw[hlen,hst,zp2];exact kh
 ·rcases BS with h|h<;>omega
 ·rcases BS with h|h<;>omega
theorem WH{lo:Nat}(v:zi)(ns:List aM)(w:zh)(hs:dU lo w v ns)(hn:ns.length<=1048576):
  Calls prog 94 #[v] w λe w'=>zg w.heap.size w w'/\((jW ns=false/\∃lv rv,e=.returned (.tuple #[lv,rv,.bool false]))\/
   (jW ns=true/\∃gl cl gr cr,e=.returned (.tuple #[zd (zb ⟨gl,0,zc⟩) ns.length cl,zd (zb ⟨gr,0,zc⟩) ns.length cr,.bool true])/\
    w'.ownsRow w.heap.size 3 1 (zd (zb ⟨gl,0,zc⟩) ns.length cl) ns.length (rV ns ns.length)/\w'.ownsRow w.heap.size 3 1 (zd (zb ⟨gr,0,zc⟩) ns.length cr) ns.length (rW ns ns.length)/\∀i,i<ns.length->bi (bJ ns i)<=(aN ns i).length)):=by
 obtain⟨ao,cap,rfl,hm,hc⟩:=hs;obtain⟨i0,hi,bK,bh,bz⟩:=info_parts Tryz.Oz
 go_enter func94,ntmps94
 go_wp2
 go_loopw [5,6,7,17] (λl r s i wr=>∃(k gl cl gr cr gs cs:Nat),k<=ns.length/\i=za .i64 k/\l=zd (zb ⟨gl,0,zc⟩) k cl/\r=zd (zb ⟨gr,0,zc⟩) k cr/\s=zd (zb ⟨gs,0,zc⟩) (aN ns k).length cs/\zg w.heap.size w wr/\Xi wr w.heap.size gl cl gr cr gs cs k (aN ns k).length (rV ns k) (rW ns k) (kZ (aN ns k))/\ze (nB ns 0=nB (ns.drop k) (aN ns k).length)/\ze (∀i,i<k->bi (bJ ns i)<=(aN ns i).length))
  (λ_ _ _ i _=>ns.length-(intOf i).toNat)
 case atStart=>
  refine⟨0,_,_,_,_,_,_,aZ _,rfl,rfl,rfl,rfl,((au).alloc (by simp) _).alloc (by simp;omega) _,⟨?_,?_,?_,by simp,by simp;omega,by simp⟩,rfl,λi hi=>absurd hi (dk _)⟩
  ·exact((zg2 _ _).alloc _).alloc _
  ·exact(OX _ _ _ _ (by omega) (by simp)).alloc _
  ·exact OX _ _ _ _ (by omega) (by simp)
 case round=>
  obtain⟨k,gl,cl,gr,cr,gs,cs,hk,rfl,rfl,rfl,rfl,hb,fm,HS,P8⟩:=hrel;have iL:=zsk ns k
  by_cases hlt:k<ns.length
  ·obtain⟨b,o,sv,nd,rfl,Hn,bu,c0,c1,c2,c3,c4,di⟩:=hc.elem hb hlt;obtain⟨bH,bI,rfl,hsm,jQ⟩:=di;have vw:ze (bJ ns k=nd.kind):=by show _=_;unfold bJ;rw[Hn.out]
   have HD:ze _:=zhY ns k hlt (aN ns k).length nd.kind vw.out;have kw:ze (aN ns (k+1)=(aN ns k).take ((aN ns k).length-bi nd.kind)++[k]):=by show _=_;rw[aN,vw.out]
   have HL:ze (lh ns k=if bi nd.kind=0 then -1 else (((aN ns k).getD ((aN ns k).length-bi nd.kind) 0:Nat):Int)):=by show _=_;rw[lh,vw.out]
   have HR:ze (oh ns k=if bi nd.kind=2 then (((aN ns k).getD ((aN ns k).length-1) 0:Nat):Int) else -1):=by show _=_;rw[oh,vw.out]
   have hz:=hb.size;have bB:zg w.heap.size w (wr.alloc (zf #[za .i64 nd.kind,.slice bH nd.set.length bI,za .i64 nd.min,za .i64 nd.max,za .i64 nd.group] 149)):=hb.alloc hz _;obtain⟨zz6,zz7,zz8,zyj⟩:=qc fm.left;obtain⟨zAa,zAb,zAc,zyl⟩:=qc fm.right;obtain⟨zAd,zAe,Eg,zym⟩:=qc fm.stack;unfold maxLen at zyj zyl zym
   by_cases eB:(aN ns k).length<bi nd.kind
   ·have hle:((aN ns k).length:Int)<(bi nd.kind:Int):=by omega
    go_wp2_with (go_at_call 116;refine(Pk _ _).mono ?_;rintro e w2 ⟨rfl,rfl⟩)
    go_ret3
    exact⟨bB,.inl ⟨by unfold jW;rw[HS.out,HD.out,aD eB];rfl,_,_,rfl⟩⟩
   have fI:ze (nB ns 0=nB (ns.drop (k+1)) (aN ns (k+1)).length):=by
    show _=_;rw[HS.out,HD.out,aq eB,kw.out]
    congr 1
    simp
   have IP:ze (∀i,i<k+1->bi (bJ ns i)<=(aN ns i).length):=by
    intro i hi
    by_cases e:i=k
    ·subst e;rw[vw.out];omega
    ·exact P8.out i (by omega)
   rcases(show bi nd.kind=0\/bi nd.kind=1\/bi nd.kind=2 by have:=zl0 nd.kind;omega) with ha|ha|ha
   ·obtain⟨m,hd⟩:∃m,(aN ns k).length=m+0:=⟨_,rfl⟩;have Hd:ze _:=hd;rw[ha,hd]at kw;rw[ha,hd]at HL;rw[ha]at HR;have tq:∀{w1 w2:zh},(wr.alloc (zf #[za .i64 nd.kind,.slice bH nd.set.length bI,za .i64 nd.min,za .i64 nd.max,za .i64 nd.group] 149)).grownBy w1 (zb gl)->w1.grownBy w2 (zb gr)->w2.ownsRow w.heap.size 3 1 (zd (zb ⟨gs,0,zc⟩) m cs) m (kZ ((aN ns k).take m)):=by
     intro w1 w2 eC bU;have h0:=A7 (m:=m) (fm.stack.alloc (zf #[za .i64 nd.kind,.slice bH nd.set.length bI,za .i64 nd.min,za .i64 nd.max,za .i64 nd.group] 149)) (by have:=Hd.out;omega);rw[V0]at h0;exact qP (qP h0 eC fm.ls.symm) bU fm.rs.symm
    rw[hd]at Eg iL ⊢;have fE:¬((m:Int)+0<0):=by omega
    clear hd
    go_wp2_with (first|(go_at_call 116;refine(Pk _ _).mono ?_;rintro e w2 ⟨rfl,rfl⟩;rw[ha])|(refine U3 (wr.alloc (zf #[za .i64 nd.kind,.slice bH nd.set.length bI,za .i64 nd.min,za .i64 nd.max,za .i64 nd.group] 149)) (wr.heap.size+1) (by simp) rfl (.tmp 60) (.tmp 62) 23 rfl w.heap.size 3 i0 _ 8 underlying23 hi bK bh bz rfl gl cl k (rV ns k) _ rfl (fm.left.alloc _) rfl rfl (by omega) (by omega) bB.size ?_;intro g1 Ac w1 mq kQ uh;have vU:=kQ.size)|(refine pX w1 rfl (.tmp 64) (.tmp 66) 23 rfl w.heap.size 3 i0 _ 8 underlying23 hi bK bh bz rfl gr cr k (rW ns k) _ rfl (qP (fm.right.alloc _) kQ fm.lr.symm) rfl rfl (by omega) (by omega) (aU bB.size vU) ?_;intro g2 yE w2 eJ ry BR;have Ew:=ry.size)|(refine pX w2 rfl (.tmp 68) (.tmp 70) 23 rfl w.heap.size 3 i0 _ 8 underlying23 hi bK bh bz rfl gs cs m (kZ ((aN ns k).take m)) _ rfl (tq kQ ry) rfl rfl (by omega) (by omega) (aU bB.size (aU vU Ew)) ?_;intro g3 Zf w3 kh Aj BS))
    go_roundw
    case rel=>exact VP (m:=m) (by simpa using kw.out) (by have:=Hd.out;omega) mq eJ kh kQ ry Aj uh BR BS (HL.out.trans (by simp)) (HR.out.trans (by simp)) bB rfl fm (by simp;omega) (by simp;omega) fI IP hlt
    case measure=>simp[intOf];omega
   ·obtain⟨m,hd⟩:∃m,(aN ns k).length=m+1:=⟨(aN ns k).length-1,by omega⟩;have Hd:ze _:=hd;obtain⟨x,yZ⟩:∃x,(aN ns k).getD m 0=x:=⟨_,rfl⟩;have q0:wr.cell? ⟨gs,m,zc⟩=zb (za .i64 (x:Int)):=by rw[fm.stack.cellAt m (by omega),Wc _ _ (by omega),yZ]
    rw[ha,hd]at kw;rw[ha,hd]at HL;rw[ha]at HR;have tq:∀{w1 w2:zh},(wr.alloc (zf #[za .i64 nd.kind,.slice bH nd.set.length bI,za .i64 nd.min,za .i64 nd.max,za .i64 nd.group] 149)).grownBy w1 (zb gl)->w1.grownBy w2 (zb gr)->w2.ownsRow w.heap.size 3 1 (zd (zb ⟨gs,0,zc⟩) m cs) m (kZ ((aN ns k).take m)):=by
     intro w1 w2 eC bU;have h0:=A7 (m:=m) (fm.stack.alloc (zf #[za .i64 nd.kind,.slice bH nd.set.length bI,za .i64 nd.min,za .i64 nd.max,za .i64 nd.group] 149)) (by have:=Hd.out;omega);rw[V0]at h0;exact qP (qP h0 eC fm.ls.symm) bU fm.rs.symm
    rw[hd]at Eg iL ⊢;have HX:ze _:=yZ;clear hd yZ
    go_wp2_with (first|(go_at_call 116;refine(Pk _ _).mono ?_;rintro e w2 ⟨rfl,rfl⟩;rw[ha])|(refine U3 (wr.alloc (zf #[za .i64 nd.kind,.slice bH nd.set.length bI,za .i64 nd.min,za .i64 nd.max,za .i64 nd.group] 149)) (wr.heap.size+1) (by simp) rfl (.tmp 60) (.tmp 62) 23 rfl w.heap.size 3 i0 _ 8 underlying23 hi bK bh bz rfl gl cl k (rV ns k) _ rfl (fm.left.alloc _) rfl rfl (by omega) (by omega) bB.size ?_;intro g1 Ac w1 mq kQ uh;have vU:=kQ.size)|(refine pX w1 rfl (.tmp 64) (.tmp 66) 23 rfl w.heap.size 3 i0 _ 8 underlying23 hi bK bh bz rfl gr cr k (rW ns k) _ rfl (qP (fm.right.alloc _) kQ fm.lr.symm) rfl rfl (by omega) (by omega) (aU bB.size vU) ?_;intro g2 yE w2 eJ ry BR;have Ew:=ry.size)|(refine pX w2 rfl (.tmp 68) (.tmp 70) 23 rfl w.heap.size 3 i0 _ 8 underlying23 hi bK bh bz rfl gs cs m (kZ ((aN ns k).take m)) _ rfl (tq kQ ry) rfl rfl (by omega) (by omega) (aU bB.size (aU vU Ew)) ?_;intro g3 Zf w3 kh Aj BS))
    go_roundw
    case rel=>exact VP (m:=m) (by have:=kw.out;rw[Dk]at this;exact this) (by have:=Hd.out;omega) mq eJ kh kQ ry Aj uh BR BS (HL.out.trans (by rw[aq (by omega),Dk,HX.out])) (HR.out.trans (by rw[aq (by omega)])) bB rfl fm (by simp;omega) (by simp;omega) fI IP hlt
    case measure=>simp[intOf];omega
   ·obtain⟨m,hd⟩:∃m,(aN ns k).length=m+2:=⟨(aN ns k).length-2,by omega⟩;have Hd:ze _:=hd;obtain⟨x,yZ⟩:∃x,(aN ns k).getD m 0=x:=⟨_,rfl⟩;have q0:wr.cell? ⟨gs,m,zc⟩=zb (za .i64 (x:Int)):=by rw[fm.stack.cellAt m (by omega),Wc _ _ (by omega),yZ]
    obtain⟨y,T7⟩:∃y,(aN ns k).getD (m+1) 0=y:=⟨_,rfl⟩;have q1:wr.cell? ⟨gs,m+1,zc⟩=zb (za .i64 (y:Int)):=by rw[fm.stack.cellAt (m+1) (by omega),Wc _ _ (by omega),T7]
    rw[ha,hd]at kw;rw[ha,hd]at HL;rw[ha,hd]at HR;have tq:∀{w1 w2:zh},(wr.alloc (zf #[za .i64 nd.kind,.slice bH nd.set.length bI,za .i64 nd.min,za .i64 nd.max,za .i64 nd.group] 149)).grownBy w1 (zb gl)->w1.grownBy w2 (zb gr)->w2.ownsRow w.heap.size 3 1 (zd (zb ⟨gs,0,zc⟩) m cs) m (kZ ((aN ns k).take m)):=by
     intro w1 w2 eC bU;have h0:=A7 (m:=m) (fm.stack.alloc (zf #[za .i64 nd.kind,.slice bH nd.set.length bI,za .i64 nd.min,za .i64 nd.max,za .i64 nd.group] 149)) (by have:=Hd.out;omega);rw[V0]at h0;exact qP (qP h0 eC fm.ls.symm) bU fm.rs.symm
    rw[hd]at Eg iL ⊢;have HX:ze _:=yZ;have HY:ze _:=T7;clear hd yZ T7
    go_wp2_with (first|(go_at_call 116;refine(Pk _ _).mono ?_;rintro e w2 ⟨rfl,rfl⟩;rw[ha])|(refine U3 (wr.alloc (zf #[za .i64 nd.kind,.slice bH nd.set.length bI,za .i64 nd.min,za .i64 nd.max,za .i64 nd.group] 149)) (wr.heap.size+1) (by simp) rfl (.tmp 60) (.tmp 62) 23 rfl w.heap.size 3 i0 _ 8 underlying23 hi bK bh bz rfl gl cl k (rV ns k) _ rfl (fm.left.alloc _) rfl rfl (by omega) (by omega) bB.size ?_;intro g1 Ac w1 mq kQ uh;have vU:=kQ.size)|(refine pX w1 rfl (.tmp 64) (.tmp 66) 23 rfl w.heap.size 3 i0 _ 8 underlying23 hi bK bh bz rfl gr cr k (rW ns k) _ rfl (qP (fm.right.alloc _) kQ fm.lr.symm) rfl rfl (by omega) (by omega) (aU bB.size vU) ?_;intro g2 yE w2 eJ ry BR;have Ew:=ry.size)|(refine pX w2 rfl (.tmp 68) (.tmp 70) 23 rfl w.heap.size 3 i0 _ 8 underlying23 hi bK bh bz rfl gs cs m (kZ ((aN ns k).take m)) _ rfl (tq kQ ry) rfl rfl (by omega) (by omega) (aU bB.size (aU vU Ew)) ?_;intro g3 Zf w3 kh Aj BS))
    go_roundw
    case rel=>exact VP (m:=m) (by have:=kw.out;rw[Dk]at this;exact this) (by have:=Hd.out;omega) mq eJ kh kQ ry Aj uh BR BS (HL.out.trans (by rw[aq (by omega),Dk,HX.out])) (HR.out.trans (by rw[aD (by trivial),show m+2-1=m+1 by omega,HY.out])) bB rfl fm (by simp;omega) (by simp;omega) fI IP hlt
    case measure=>simp[intOf];omega
  ·have bC:k=ns.length:=by omega
   have AL:ns.drop k=[]:=sA (by omega);rw[AL]at HS;have Qf:ze (jW ns=((((aN ns k).length:Nat):Int)==1)):=by
    show _=_;unfold jW;rw[HS.out,nB]
    by_cases h:(aN ns k).length=1
    ·rw[h];rfl
    ·have h1:((((aN ns k).length:Nat):Int)==1)=false:=eu.2 (by omega);rw[h1];simp[h]
   have HP:ze (∀e,e=Ending.returned (.tuple #[zd (zb ⟨gl,0,zc⟩) k cl,zd (zb ⟨gr,0,zc⟩) k cr,.bool ((((aN ns k).length:Nat):Int)==1)])->((jW ns=false/\∃lv rv,e=.returned (.tuple #[lv,rv,.bool false]))\/
   (jW ns=true/\∃gl cl gr cr,e=.returned (.tuple #[zd (zb ⟨gl,0,zc⟩) ns.length cl,zd (zb ⟨gr,0,zc⟩) ns.length cr,.bool true])/\
    wr.ownsRow w.heap.size 3 1 (zd (zb ⟨gl,0,zc⟩) ns.length cl) ns.length (rV ns ns.length)/\wr.ownsRow w.heap.size 3 1 (zd (zb ⟨gr,0,zc⟩) ns.length cr) ns.length (rW ns ns.length)/\∀i,i<ns.length->bi (bJ ns i)<=(aN ns i).length))):=by
    intro e he;cases h:((((aN ns k).length:Nat):Int)==1)
    ·rw[h]at he;exact .inl ⟨Qf.out.trans h,_,_,he⟩
    ·rw[h]at he;rw[bC]at he fm P8;exact .inr ⟨by rw[Qf.out,<-h],gl,cl,gr,cr,he,fm.left,fm.right,P8.out⟩
   have gV:¬k<ns.length:=by omega
   clear bC AL Qf fm;go_wp2
   go_ret3
   exact⟨hb,HP.out _ rfl⟩
end Go.Proofs.YtdimhpfiieepiaaGreatDoor
