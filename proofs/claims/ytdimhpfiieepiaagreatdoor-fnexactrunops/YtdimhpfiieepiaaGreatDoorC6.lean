import Derived.Test.YtdimhpfiieepiaaGreatDoorC5
namespace Go.Proofs.YtdimhpfiieepiaaGreatDoor
open Proofs.Tryz
open Value renaming int->za,slice->zd
open Option renaming some->zb,none->zc
open RowKit renaming Hid->ze,Below->zg
open Obj renaming cells->zf
open Go renaming World->zh,Value->zi
set_option maxHeartbeats 4000000
set_option maxRecDepth 100000
open Go.RowKit
variable {w:zh}{B g2:Nat}
def bO(ns:List aL)(i:Nat):Int:=(ns.getD i .zero).kind
def aK(ns:List aL):Nat->List Nat
 |0=>[]
 |i+1=>(aK ns i).take ((aK ns i).length-bC (bO ns i))++[i]
def lm(ns:List aL)(i:Nat):Int:=if bC (bO ns i)=0 then -1 else ((aK ns i).getD ((aK ns i).length-bC (bO ns i)) 0:Nat)
def oD(ns:List aL)(i:Nat):Int:=if bC (bO ns i)=2 then ((aK ns i).getD ((aK ns i).length-1) 0:Nat) else -1
def nE:List aL->Nat->Option Nat
 |[],d=>zb d
 |n::ns,d=>if d<bC n.kind then zc else nE ns (d-bC n.kind+1)
def jP(ns:List aL):Bool:=nE ns 0==zb 1
theorem zhO(ns:List aL)(i:Nat)(hi:i<ns.length)(d:Nat)(kd:Int)(h:bO ns i=kd):nE (ns.drop i) d=if d<bC kd then zc else nE (ns.drop (i+1)) (d-bC kd+1):=by
 rw[oK hi];have:ns[i].kind=kd:=by rw[<-h];simp[bO,List.getD,hi]
 rw[nE,this]
theorem Yy(ns:List aL)(i:Nat):(aK ns (i+1)).length=(aK ns i).length-bC (bO ns i)+1:=by
 simp[aK]
theorem zsH(ns:List aL):∀i,(aK ns i).length<=i
 |0=>aj _
 |i+1=>by have:=zsH ns i;rw[Yy];omega
theorem NI(ns:List aL):∀i,∀j∈aK ns i,j<i
 |0,j,h=>by simp[aK]at h
 |i+1,j,h=>by
  unfold aK at h;rcases fm.1 h with h|h
  ·exact Nat.lt_succ_of_lt (NI ns i j (List.mem_of_mem_take h))
  ·simp at h;omega
def sf(ns:List aL)(k:Nat):List zi:=(List.range k).map λi=>za .i64 (lm ns i)
def sg(ns:List aL)(k:Nat):List zi:=(List.range k).map λi=>za .i64 (oD ns i)
def kZ(l:List Nat):List zi:=l.map λj:Nat=>za .i64 (j:Int)
theorem zp9(ns:List aL)(k:Nat):sf ns (k+1)=sf ns k++[za .i64 (lm ns k)]:=by simp[sf,List.range_succ]
theorem zqa(ns:List aL)(k:Nat):sg ns (k+1)=sg ns k++[za .i64 (oD ns k)]:=by simp[sg,List.range_succ]
theorem Xw(l:List Nat)(m:Nat):(kZ l).take m=kZ (l.take m):=by simp[kZ,List.map_take]
theorem zqb(l:List Nat)(j:Nat):kZ (l++[j])=kZ l++[za .i64 (j:Int)]:=by simp[kZ]
theorem XU(l:List Nat)(i:Nat)(h:i<l.length):(kZ l)[i]?=zb (za .i64 ((l.getD i 0:Nat):Int)):=by simp[kZ,h,List.getD]
structure YT(w:zh)(B:Nat)(gl cl gr cr gs cs k d:Nat)(L R S:List zi):Prop where
 left:w.ownsRow B 3 1 (zd (zb ⟨gl,0,zc⟩) k cl) k L
 right:w.ownsRow B 3 1 (zd (zb ⟨gr,0,zc⟩) k cr) k R
 stack:w.ownsRow B 3 1 (zd (zb ⟨gs,0,zc⟩) d cs) d S
 lr:gl≠gr
 ls:gl≠gs
 rs:gr≠gs
theorem qZ{w':zh}{g cap n:Nat}{xs:List zi}(h:w.ownsRow B 3 1 (zd (zb ⟨g,0,zc⟩) n cap) n xs)(hg:w.grownBy w' (zb g2))(hne:g≠g2):w'.ownsRow B 3 1 (zd (zb ⟨g,0,zc⟩) n cap) n xs:=
 h.kept hg (.inr (by simp[Value.ownBlock];exact hne))
theorem XC{ns:List aL}{k m gl cl gr cr gs cs g1 c1 c2 g3 c3:Nat}{wr W w1 w2 w3:zh}{lf rt:Int}
  (hst:aK ns (k+1)=(aK ns k).take m++[k]) (hm:m<=(aK ns k).length)
  (lL:w1.ownsRow B 3 1 (zd (zb ⟨g1,0,zc⟩) (k+1) c1) (k+1) (sf ns k++[za .i64 lf])) (ff:w2.ownsRow B 3 1 (zd (zb ⟨g2,0,zc⟩) (k+1) c2) (k+1) (sg ns k++[za .i64 rt]))
  (kH:w3.ownsRow B 3 1 (zd (zb ⟨g3,0,zc⟩) (m+1) c3) (m+1) (kZ ((aK ns k).take m)++[za .i64 (k:Int)]))
  (kU:W.grownBy w1 (zb gl)) (rI:w1.grownBy w2 (zb gr)) (AZ:w2.grownBy w3 (zb gs)) (uu:g1=gl\/g1=W.heap.size+1) (CB:g2=gr\/g2=w1.heap.size+1) (CC:g3=gs\/g3=w2.heap.size+1)
  (hl:lm ns k=lf) (hr:oD ns k=rt) (bQ:zg w.heap.size w W) (hB:B=w.heap.size) (fG:YT wr B gl cl gr cr gs cs k (aK ns k).length (sf ns k) (sg ns k) (kZ (aK ns k))) (cJ:gr<W.heap.size) (iJ:gs<W.heap.size)
  (eC:ze (nE ns 0=nE (ns.drop (k+1)) (aK ns (k+1)).length)) (JX:ze (∀i,i<k+1->bC (bO ns i)<=(aK ns i).length)) (hlt:k<ns.length):
  ∃(k' gl cl gr cr gs cs:Nat),k'<=ns.length/\Value.int .i64 ((k:Int)+1)=za .i64 k'/\Value.slice (zb ⟨g1,0,zc⟩) (k+1) c1=zd (zb ⟨gl,0,zc⟩) k' cl/\Value.slice (zb ⟨g2,0,zc⟩) (k+1) c2=zd (zb ⟨gr,0,zc⟩) k' cr/\Value.slice (zb ⟨g3,0,zc⟩) (m+1) c3=zd (zb ⟨gs,0,zc⟩) (aK ns k').length cs/\zg w.heap.size w w3/\YT w3 w.heap.size gl cl gr cr gs cs k' (aK ns k').length (sf ns k') (sg ns k') (kZ (aK ns k'))/\ze (nE ns 0=nE (ns.drop k') (aK ns k').length)/\ze (∀i,i<k'->bC (bO ns i)<=(aK ns i).length):=by
 subst hB;have hlen:(aK ns (k+1)).length=m+1:=by rw[hst];simp;omega
 obtain⟨ag,_,_,_⟩:=qn fG.left;obtain⟨ae,_,_,_⟩:=qn fG.right;obtain⟨aG,_,_,_⟩:=qn fG.stack;have s1:=kU.size;have s2:=rI.size;have f1:=(qn lL).2.1;have f2:=(qn ff).2.1;have b1:zg w.heap.size w w1:=bQ.grown kU bQ.size (by intro q hq;cases hq;exact ag);have b2:zg w.heap.size w w2:=b1.grown rI b1.size (by intro q hq;cases hq;exact ae);have b3:zg w.heap.size w w3:=b2.grown AZ b2.size (by intro q hq;cases hq;exact aG);have n1r:g1≠gr:=by have:=fG.lr;rcases uu with h|h<;>omega
 have n1s:g1≠gs:=by have:=fG.ls;rcases uu with h|h<;>omega
 have n2s:g2≠gs:=by have:=fG.rs;rcases CB with h|h<;>omega
 have n12:g1≠g2:=by rcases CB with h|h<;>omega
 refine⟨k+1,g1,c1,g2,c2,g3,c3,by omega,by go_num,rfl,rfl,by rw[hlen],b3,⟨?_,?_,?_,n12,?_,?_⟩,eC,JX⟩
 ·rw[zp9,hl];exact qZ (qZ lL rI n1r) AZ n1s
 ·rw[zqa,hr];exact qZ ff AZ n2s
 ·rw[hlen,hst,zqb];exact kH
 ·rcases CC with h|h<;>omega
 ·rcases CC with h|h<;>omega
theorem YB{lo:Nat}(v:zi)(ns:List aL)(w:zh)(hs:dZ lo w v ns)(hn:ns.length<=1048576):
  Calls prog 94 #[v] w λe w'=>zg w.heap.size w w'/\((jP ns=false/\∃lv rv,e=.returned (.tuple #[lv,rv,.bool false]))\/
   (jP ns=true/\∃gl cl gr cr,e=.returned (.tuple #[zd (zb ⟨gl,0,zc⟩) ns.length cl,zd (zb ⟨gr,0,zc⟩) ns.length cr,.bool true])/\
    w'.ownsRow w.heap.size 3 1 (zd (zb ⟨gl,0,zc⟩) ns.length cl) ns.length (sf ns ns.length)/\w'.ownsRow w.heap.size 3 1 (zd (zb ⟨gr,0,zc⟩) ns.length cr) ns.length (sg ns ns.length)/\∀i,i<ns.length->bC (bO ns i)<=(aK ns i).length)):=by
 obtain⟨ao,cap,rfl,hm,hc⟩:=hs;obtain⟨i0,hi,bI,aO,aQ⟩:=info_parts Tryz.P0
 go_enter func94,ntmps94
 go_wp2
 go_loopw [5,6,7,17] (λl r s i wr=>∃(k gl cl gr cr gs cs:Nat),k<=ns.length/\i=za .i64 k/\l=zd (zb ⟨gl,0,zc⟩) k cl/\r=zd (zb ⟨gr,0,zc⟩) k cr/\s=zd (zb ⟨gs,0,zc⟩) (aK ns k).length cs/\zg w.heap.size w wr/\YT wr w.heap.size gl cl gr cr gs cs k (aK ns k).length (sf ns k) (sg ns k) (kZ (aK ns k))/\ze (nE ns 0=nE (ns.drop k) (aK ns k).length)/\ze (∀i,i<k->bC (bO ns i)<=(aK ns i).length))
  (λ_ _ _ i _=>ns.length-(intOf i).toNat)
 case atStart=>
  refine⟨0,_,_,_,_,_,_,aR _,rfl,rfl,rfl,rfl,((aw).alloc (by simp) _).alloc (by simp;omega) _,⟨?_,?_,?_,by simp,by simp;omega,by simp⟩,rfl,λi hi=>absurd hi (cR _)⟩
  ·exact((zgR _ _).alloc _).alloc _
  ·exact(Qq _ _ _ _ (by omega) (by simp)).alloc _
  ·exact Qq _ _ _ _ (by omega) (by simp)
 case round=>
  obtain⟨k,gl,cl,gr,cr,gs,cs,hk,rfl,rfl,rfl,rfl,hb,fG,HS,RJ⟩:=hrel;have mf:=zsH ns k
  by_cases hlt:k<ns.length
  ·obtain⟨b,o,sv,nd,rfl,Hn,aZ,c0,c1,c2,c3,c4,dr⟩:=hc.elem hb hlt;obtain⟨bZ,cd,rfl,hsm,jJ⟩:=dr;have vC:ze (bO ns k=nd.kind):=by show _=_;unfold bO;rw[Hn.out]
   have HD:ze _:=zhO ns k hlt (aK ns k).length nd.kind vC.out;have kR:ze (aK ns (k+1)=(aK ns k).take ((aK ns k).length-bC nd.kind)++[k]):=by show _=_;rw[aK,vC.out]
   have HL:ze (lm ns k=if bC nd.kind=0 then -1 else (((aK ns k).getD ((aK ns k).length-bC nd.kind) 0:Nat):Int)):=by show _=_;rw[lm,vC.out]
   have HR:ze (oD ns k=if bC nd.kind=2 then (((aK ns k).getD ((aK ns k).length-1) 0:Nat):Int) else -1):=by show _=_;rw[oD,vC.out]
   have hz:=hb.size;have bQ:zg w.heap.size w (wr.alloc (zf #[za .i64 nd.kind,.slice bZ nd.set.length cd,za .i64 nd.min,za .i64 nd.max,za .i64 nd.group] 149)):=hb.alloc hz _;obtain⟨zBi,zBj,zBk,zzI⟩:=qn fG.left;obtain⟨zBo,zBp,zBq,zzK⟩:=qn fG.right;obtain⟨zBr,zBs,E6,zzL⟩:=qn fG.stack;unfold maxLen at zzI zzK zzL
   by_cases eu:(aK ns k).length<bC nd.kind
   ·have hle:((aK ns k).length:Int)<(bC nd.kind:Int):=by omega
    go_wp2_with (go_at_call 116;refine(QH _ _).mono ?_;rintro e w2 ⟨rfl,rfl⟩)
    go_ret3
    exact⟨bQ,.inl ⟨by unfold jP;rw[HS.out,HD.out,aC eu];rfl,_,_,rfl⟩⟩
   have eC:ze (nE ns 0=nE (ns.drop (k+1)) (aK ns (k+1)).length):=by
    show _=_;rw[HS.out,HD.out,ak eu,kR.out]
    congr 1
    simp
   have JX:ze (∀i,i<k+1->bC (bO ns i)<=(aK ns i).length):=by
    intro i hi
    by_cases e:i=k
    ·subst e;rw[vC.out];omega
    ·exact RJ.out i (by omega)
   rcases(show bC nd.kind=0\/bC nd.kind=1\/bC nd.kind=2 by have:=zl8 nd.kind;omega) with ha|ha|ha
   ·obtain⟨m,hd⟩:∃m,(aK ns k).length=m+0:=⟨_,rfl⟩;have Hd:ze _:=hd;rw[ha,hd]at kR;rw[ha,hd]at HL;rw[ha]at HR;have tM:∀{w1 w2:zh},(wr.alloc (zf #[za .i64 nd.kind,.slice bZ nd.set.length cd,za .i64 nd.min,za .i64 nd.max,za .i64 nd.group] 149)).grownBy w1 (zb gl)->w1.grownBy w2 (zb gr)->w2.ownsRow w.heap.size 3 1 (zd (zb ⟨gs,0,zc⟩) m cs) m (kZ ((aK ns k).take m)):=by
     intro w1 w2 eO bU;have h0:=Qv (m:=m) (fG.stack.alloc (zf #[za .i64 nd.kind,.slice bZ nd.set.length cd,za .i64 nd.min,za .i64 nd.max,za .i64 nd.group] 149)) (by have:=Hd.out;omega);rw[Xw]at h0;exact qZ (qZ h0 eO fG.ls.symm) bU fG.rs.symm
    rw[hd]at E6 mf ⊢;have j9:¬((m:Int)+0<0):=by omega
    clear hd
    go_wp2_with (first|(go_at_call 116;refine(QH _ _).mono ?_;rintro e w2 ⟨rfl,rfl⟩;rw[ha])|(refine WK (wr.alloc (zf #[za .i64 nd.kind,.slice bZ nd.set.length cd,za .i64 nd.min,za .i64 nd.max,za .i64 nd.group] 149)) (wr.heap.size+1) (by simp) rfl (.tmp 60) (.tmp 62) 23 rfl w.heap.size 3 i0 _ 8 underlying23 hi bI aO aQ rfl gl cl k (sf ns k) _ rfl (fG.left.alloc _) rfl rfl (by omega) (by omega) bQ.size ?_;intro g1 AQ w1 lL kU uu;have ww:=kU.size)|(refine wL w1 rfl (.tmp 64) (.tmp 66) 23 rfl w.heap.size 3 i0 _ 8 underlying23 hi bI aO aQ rfl gr cr k (sg ns k) _ rfl (qZ (fG.right.alloc _) kU fG.lr.symm) rfl rfl (by omega) (by omega) (aW bQ.size ww) ?_;intro g2 yX w2 ff rI CB;have Fp:=rI.size)|(refine wL w2 rfl (.tmp 68) (.tmp 70) 23 rfl w.heap.size 3 i0 _ 8 underlying23 hi bI aO aQ rfl gs cs m (kZ ((aK ns k).take m)) _ rfl (tM kU rI) rfl rfl (by omega) (by omega) (aW bQ.size (aW ww Fp)) ?_;intro g3 c3' w3 kH AZ CC))
    go_roundw
    case rel=>exact XC (m:=m) (by simpa using kR.out) (by have:=Hd.out;omega) lL ff kH kU rI AZ uu CB CC (HL.out.trans (by simp)) (HR.out.trans (by simp)) bQ rfl fG (by simp;omega) (by simp;omega) eC JX hlt
    case measure=>simp[intOf];omega
   ·obtain⟨m,hd⟩:∃m,(aK ns k).length=m+1:=⟨(aK ns k).length-1,by omega⟩;have Hd:ze _:=hd;obtain⟨x,zE⟩:∃x,(aK ns k).getD m 0=x:=⟨_,rfl⟩;have q0:wr.cell? ⟨gs,m,zc⟩=zb (za .i64 (x:Int)):=by rw[fG.stack.cellAt m (by omega),XU _ _ (by omega),zE]
    rw[ha,hd]at kR;rw[ha,hd]at HL;rw[ha]at HR;have tM:∀{w1 w2:zh},(wr.alloc (zf #[za .i64 nd.kind,.slice bZ nd.set.length cd,za .i64 nd.min,za .i64 nd.max,za .i64 nd.group] 149)).grownBy w1 (zb gl)->w1.grownBy w2 (zb gr)->w2.ownsRow w.heap.size 3 1 (zd (zb ⟨gs,0,zc⟩) m cs) m (kZ ((aK ns k).take m)):=by
     intro w1 w2 eO bU;have h0:=Qv (m:=m) (fG.stack.alloc (zf #[za .i64 nd.kind,.slice bZ nd.set.length cd,za .i64 nd.min,za .i64 nd.max,za .i64 nd.group] 149)) (by have:=Hd.out;omega);rw[Xw]at h0;exact qZ (qZ h0 eO fG.ls.symm) bU fG.rs.symm
    rw[hd]at E6 mf ⊢;have HX:ze _:=zE;clear hd zE
    go_wp2_with (first|(go_at_call 116;refine(QH _ _).mono ?_;rintro e w2 ⟨rfl,rfl⟩;rw[ha])|(refine WK (wr.alloc (zf #[za .i64 nd.kind,.slice bZ nd.set.length cd,za .i64 nd.min,za .i64 nd.max,za .i64 nd.group] 149)) (wr.heap.size+1) (by simp) rfl (.tmp 60) (.tmp 62) 23 rfl w.heap.size 3 i0 _ 8 underlying23 hi bI aO aQ rfl gl cl k (sf ns k) _ rfl (fG.left.alloc _) rfl rfl (by omega) (by omega) bQ.size ?_;intro g1 AQ w1 lL kU uu;have ww:=kU.size)|(refine wL w1 rfl (.tmp 64) (.tmp 66) 23 rfl w.heap.size 3 i0 _ 8 underlying23 hi bI aO aQ rfl gr cr k (sg ns k) _ rfl (qZ (fG.right.alloc _) kU fG.lr.symm) rfl rfl (by omega) (by omega) (aW bQ.size ww) ?_;intro g2 yX w2 ff rI CB;have Fp:=rI.size)|(refine wL w2 rfl (.tmp 68) (.tmp 70) 23 rfl w.heap.size 3 i0 _ 8 underlying23 hi bI aO aQ rfl gs cs m (kZ ((aK ns k).take m)) _ rfl (tM kU rI) rfl rfl (by omega) (by omega) (aW bQ.size (aW ww Fp)) ?_;intro g3 c3' w3 kH AZ CC))
    go_roundw
    case rel=>exact XC (m:=m) (by have:=kR.out;rw[D8]at this;exact this) (by have:=Hd.out;omega) lL ff kH kU rI AZ uu CB CC (HL.out.trans (by rw[ak (by omega),D8,HX.out])) (HR.out.trans (by rw[ak (by omega)])) bQ rfl fG (by simp;omega) (by simp;omega) eC JX hlt
    case measure=>simp[intOf];omega
   ·obtain⟨m,hd⟩:∃m,(aK ns k).length=m+2:=⟨(aK ns k).length-2,by omega⟩;have Hd:ze _:=hd;obtain⟨x,zE⟩:∃x,(aK ns k).getD m 0=x:=⟨_,rfl⟩;have q0:wr.cell? ⟨gs,m,zc⟩=zb (za .i64 (x:Int)):=by rw[fG.stack.cellAt m (by omega),XU _ _ (by omega),zE]
    obtain⟨y,VG⟩:∃y,(aK ns k).getD (m+1) 0=y:=⟨_,rfl⟩;have q1:wr.cell? ⟨gs,m+1,zc⟩=zb (za .i64 (y:Int)):=by rw[fG.stack.cellAt (m+1) (by omega),XU _ _ (by omega),VG]
    rw[ha,hd]at kR;rw[ha,hd]at HL;rw[ha,hd]at HR;have tM:∀{w1 w2:zh},(wr.alloc (zf #[za .i64 nd.kind,.slice bZ nd.set.length cd,za .i64 nd.min,za .i64 nd.max,za .i64 nd.group] 149)).grownBy w1 (zb gl)->w1.grownBy w2 (zb gr)->w2.ownsRow w.heap.size 3 1 (zd (zb ⟨gs,0,zc⟩) m cs) m (kZ ((aK ns k).take m)):=by
     intro w1 w2 eO bU;have h0:=Qv (m:=m) (fG.stack.alloc (zf #[za .i64 nd.kind,.slice bZ nd.set.length cd,za .i64 nd.min,za .i64 nd.max,za .i64 nd.group] 149)) (by have:=Hd.out;omega);rw[Xw]at h0;exact qZ (qZ h0 eO fG.ls.symm) bU fG.rs.symm
    rw[hd]at E6 mf ⊢;have HX:ze _:=zE;have HY:ze _:=VG;clear hd zE VG
    go_wp2_with (first|(go_at_call 116;refine(QH _ _).mono ?_;rintro e w2 ⟨rfl,rfl⟩;rw[ha])|(refine WK (wr.alloc (zf #[za .i64 nd.kind,.slice bZ nd.set.length cd,za .i64 nd.min,za .i64 nd.max,za .i64 nd.group] 149)) (wr.heap.size+1) (by simp) rfl (.tmp 60) (.tmp 62) 23 rfl w.heap.size 3 i0 _ 8 underlying23 hi bI aO aQ rfl gl cl k (sf ns k) _ rfl (fG.left.alloc _) rfl rfl (by omega) (by omega) bQ.size ?_;intro g1 AQ w1 lL kU uu;have ww:=kU.size)|(refine wL w1 rfl (.tmp 64) (.tmp 66) 23 rfl w.heap.size 3 i0 _ 8 underlying23 hi bI aO aQ rfl gr cr k (sg ns k) _ rfl (qZ (fG.right.alloc _) kU fG.lr.symm) rfl rfl (by omega) (by omega) (aW bQ.size ww) ?_;intro g2 yX w2 ff rI CB;have Fp:=rI.size)|(refine wL w2 rfl (.tmp 68) (.tmp 70) 23 rfl w.heap.size 3 i0 _ 8 underlying23 hi bI aO aQ rfl gs cs m (kZ ((aK ns k).take m)) _ rfl (tM kU rI) rfl rfl (by omega) (by omega) (aW bQ.size (aW ww Fp)) ?_;intro g3 c3' w3 kH AZ CC))
    go_roundw
    case rel=>exact XC (m:=m) (by have:=kR.out;rw[D8]at this;exact this) (by have:=Hd.out;omega) lL ff kH kU rI AZ uu CB CC (HL.out.trans (by rw[ak (by omega),D8,HX.out])) (HR.out.trans (by rw[aC (by trivial),show m+2-1=m+1 by omega,HY.out])) bQ rfl fG (by simp;omega) (by simp;omega) eC JX hlt
    case measure=>simp[intOf];omega
  ·have bK:k=ns.length:=by omega
   have Bp:ns.drop k=[]:=sI (by omega);rw[Bp]at HS;have RS:ze (jP ns=((((aK ns k).length:Nat):Int)==1)):=by
    show _=_;unfold jP;rw[HS.out,nE]
    by_cases h:(aK ns k).length=1
    ·rw[h];rfl
    ·have h1:((((aK ns k).length:Nat):Int)==1)=false:=eB.2 (by omega);rw[h1];simp[h]
   have HP:ze (∀e,e=Ending.returned (.tuple #[zd (zb ⟨gl,0,zc⟩) k cl,zd (zb ⟨gr,0,zc⟩) k cr,.bool ((((aK ns k).length:Nat):Int)==1)])->((jP ns=false/\∃lv rv,e=.returned (.tuple #[lv,rv,.bool false]))\/
   (jP ns=true/\∃gl cl gr cr,e=.returned (.tuple #[zd (zb ⟨gl,0,zc⟩) ns.length cl,zd (zb ⟨gr,0,zc⟩) ns.length cr,.bool true])/\
    wr.ownsRow w.heap.size 3 1 (zd (zb ⟨gl,0,zc⟩) ns.length cl) ns.length (sf ns ns.length)/\wr.ownsRow w.heap.size 3 1 (zd (zb ⟨gr,0,zc⟩) ns.length cr) ns.length (sg ns ns.length)/\∀i,i<ns.length->bC (bO ns i)<=(aK ns i).length))):=by
    intro e he;cases h:((((aK ns k).length:Nat):Int)==1)
    ·rw[h]at he;exact .inl ⟨RS.out.trans h,_,_,he⟩
    ·rw[h]at he;rw[bK]at he fG RJ;exact .inr ⟨by rw[RS.out,<-h],gl,cl,gr,cr,he,fG.left,fG.right,RJ.out⟩
   have fY:¬k<ns.length:=by omega
   clear bK Bp RS fG;go_wp2
   go_ret3
   exact⟨hb,HP.out _ rfl⟩
end Go.Proofs.YtdimhpfiieepiaaGreatDoor
