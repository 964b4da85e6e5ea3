import Derived.Test.YtdimhpfiieepiaaGreatDoorC17
import Derived.RangeFuncNested
import Derived.RangeFuncBound
import Derived.RangeFuncCalls
import Derived.RangeFuncLeaves
import Derived.Shelf.Abstract
import Derived.Shelf.RegionOpen
import Derived.WalkKit
import Derived.OwnWalkIn
import Derived.TacticsInMore
import Derived.LoopNIn
import Derived.LoopIn
namespace Go.Proofs.YtdimhpfiieepiaaGreatDoor
set_option maxHeartbeats 4000000
set_option maxRecDepth 100000
open Go.RowKit
section
variable{w w':World}{nw g n:Nat}{T U:Nat -> Nat}
structure zar(w:World)(nw g:Nat)(T:Nat->Nat):Prop where
 row:w.heap[g]?=some (.cells (zcS nw T) 236 (0,0))
 lt:∀i,T i<18446744073709551616
theorem zar.glt(h:zar w nw g T):g<w.heap.size:=(zuH.1 h.row).1
theorem zar.below(h:zar w nw g T)(hb:Below w.heap.size w w'):zar w' nw g T:=⟨(hb.block g h.glt).trans h.row,h.lt⟩
theorem zar.grown{o:Option Nat}(h:zar w nw g T)(hg:w.grownBy w' o)(hne:some g≠o):zar w' nw g T:=⟨(hg.block g h.glt hne).trans h.row,h.lt⟩
theorem zar.cell(h:zar w nw g T){i:Nat}(hi:i<nw):w.cell? ⟨g,i,none⟩=some (.int .u64 (T i:Int)):=by rw[zvW _ _ _ _ _ _ h.row,zfn _ _ hi]
theorem zeU(h:∀i,i<n->T i=U i):zcS n T=zcS n U:=by
 unfold zcS;rw[zvm fun i hi=>by rw[h i (by simpa using hi)]]
def orT(T U:Nat->Nat):Nat->Nat:=fun i=>T i ||| U i
def orK(T U:Nat->Nat)(k:Nat):Nat->Nat:=fun i=>if i<k then T i ||| U i else T i
theorem zsM(hT:∀i,T i<18446744073709551616)(hU:∀i,U i<18446744073709551616):∀i,orT T U i<18446744073709551616:=fun i=>Nat.or_lt_two_pow (n:=64) (hT i) (hU i)
theorem zfO(T U:Nat->Nat)(p:Nat):zai (orT T U) p=(zai T p || zai U p):=by simp[zai,orT]
theorem ztx(n:Nat)(T U:Nat->Nat)(k:Nat):zcS n (fun j=>if j=k then T k ||| U k else orK T U k j)=zcS n (orK T U (k+1)):=zeU fun i _=>by
 unfold orK
 by_cases e:i=k
 ·subst e;rw[zv3 rfl,zv3 (by omega)]
 ·rw[zv2 e]
  by_cases h:i<k
  ·rw[zv3 h,zv3 (by omega)]
  ·rw[zv2 h,zv2 (by omega)]
theorem zdn(nw g g2 cap cap2:Nat)(T U:Nat->Nat)(w:World)(hT:zar w nw g T)(hU:zar w nw g2 U)(hne:g≠g2)(hnw:nw<=1000):
  Calls Tryz.prog 168 #[.slice (some ⟨g,0,none⟩) nw cap,.slice (some ⟨g2,0,none⟩) nw cap2] w fun e w'=>e=.returned (.tuple #[])/\zar w' nw g (orT T U)/\w.grownBy w' (some g):=by
 go_enter Tryz.func168,Tryz.ntmps168
 go_wp2
 go_loopw [8] (fun i wr=>∃k:Nat,k<=nw/\i=.int .i64 k/\wr.heap[g]?=some (.cells (zcS nw (orK T U k)) 236 (0,0))/\w.grownBy wr (some g))
  (fun i _=>nw-(intOf i).toNat)
 case atStart=>exact⟨0,zvT _,rfl,by rw[hT.row];rfl,World.grownBy.refl _ _⟩
 case round=>
  obtain⟨k,hk,rfl,hr,hg⟩:=hrel
  by_cases hlt:k<nw
  ·have c0:=(hU.grown hg (by simpa using hne.symm)).cell hlt;have c1:wr.cell? ⟨g,k,none⟩=some (.int .u64 (T k:Int)):=by
    rw[zvW _ _ _ _ _ _ hr,zfn _ _ hlt];unfold orK;rw[zv2 (by omega)]
   have f1:=zvY _ _ k _ _ hr;have HN:Hid ((wr.setCell ⟨g,k,none⟩ (.int .u64 ((T k ||| U k:Nat):Int))).heap[g]?=some (.cells (zcS nw (orK T U (k+1))) 236 (0,0))):=by
    have:=zv1 wr g k _ _ (.int .u64 ((T k ||| U k:Nat):Int)) hr;rw[zkW,ztx] at this;exact this
   have hv:=zsN _ _ (hT.lt k) (hU.lt k);rw[<-hv] at HN;clear hv hr;have hi0:(0:Int)<=(k:Int):=by omega
   have hi1:(k:Int)<(nw:Int):=by omega
   generalize T k=a at *;generalize U k=b at *;go_wp2
   go_roundw
   case rel=>exact⟨k+1,by omega,by go_num,HN.out,hg.trans (zaK _ _ _ _)⟩
   case measure=>simp[intOf];omega
  ·have hkk:k=nw:=by omega
   subst hkk;go_wp2
   go_end0
   exact⟨rfl,⟨by rw[hr,zeU (U:=orT T U) fun i hi=>by unfold orK;rw[zv3 hi];rfl],zsM hT.lt hU.lt⟩,hg⟩
def zcO(nw:Nat)(T U:Nat->Nat):Bool:=(List.range nw).any fun i=>!(T i &&& U i==0)
theorem znX(k:Nat)(T U:Nat->Nat):zcO (k+1) T U=(zcO k T U || !(T k &&& U k==0)):=by simp[zcO,List.range_succ]
theorem zgZ(nw:Nat)(T U:Nat->Nat)(hT:∀i,T i<18446744073709551616):zcO nw T U=true↔∃p,p<64*nw/\zai T p=true/\zai U p=true:=by
 constructor
 ·intro h;obtain⟨i,hi,h2⟩:=zuQ.1 h;have hi':i<nw:=by simpa using hi
  have h3:T i &&& U i≠0:=by simpa using h2
  obtain⟨j,hj⟩:=Nat.exists_testBit_of_ne_zero h3;rw[Nat.testBit_and,zuK] at hj;have hj64:j<64:=by
   rcases zvM j 64 with h|h
   ·exact h
   ·have:=Nat.testBit_lt_two_pow (x:=T i) (i:=j) (zvL (hT i) (by rw[show (18446744073709551616:Nat)=2 ^ 64 by decide];exact Nat.pow_le_pow_right (by omega) h));rw[this] at hj;cases hj.1
  refine⟨i*64+j,by omega,?_,?_⟩
  ·unfold zai;rw[show (i*64+j)/64=i by omega,show (i*64+j)%64=j by omega];exact hj.1
  ·unfold zai;rw[show (i*64+j)/64=i by omega,show (i*64+j)%64=j by omega];exact hj.2
 ·rintro ⟨p,hp,h1,h2⟩;refine zuQ.2 ⟨p/64,by simp;omega,?_⟩;have h3:(T (p/64) &&& U (p/64)).testBit (p%64)=true:=by rw[Nat.testBit_and];unfold zai at h1 h2;rw[h1,h2];rfl
  have:¬(T (p/64) &&& U (p/64))=0:=fun e=>by rw[e] at h3;simp at h3
  simpa using this
theorem zmQ(nw g g2 cap cap2:Nat)(T U:Nat->Nat)(w:World)(hT:zar w nw g T)(hU:zar w nw g2 U)(hnw:nw<=1000):
  Calls Tryz.prog 195 #[.slice (some ⟨g,0,none⟩) nw cap,.slice (some ⟨g2,0,none⟩) nw cap2] w fun e w'=>e=.returned (.bool (zcO nw T U))/\Below w.heap.size w w':=by
 go_enter Tryz.func195,Tryz.ntmps195
 go_wp2
 go_loopw [9] (fun i wr=>∃k:Nat,k<=nw/\i=.int .i64 k/\Below w.heap.size w wr/\Hid (zcO k T U=false))
  (fun i _=>nw-(intOf i).toNat)
 case atStart=>exact⟨0,zvT _,rfl,Below.refl _ _,rfl⟩
 case round=>
  obtain⟨k,hk,rfl,hb,HF⟩:=hrel
  by_cases hlt:k<nw
  ·have c0:=(hT.below hb).cell hlt;have c1:=(hU.below hb).cell hlt;have hv:=ziP _ _ (hT.lt k) (hU.lt k);have Ho:Hid (zcO (k+1) T U=!(T k &&& U k==0)):=by show _=_;rw[znX,HF.out,Bool.false_or]
   have Hm:Hid (zcO (k+1) T U=true->zcO nw T U=true):=by
    intro h;unfold zcO at h ⊢;obtain⟨i,hi,h2⟩:=zuQ.1 h;exact zuQ.2 ⟨i,by simp at hi ⊢;omega,h2⟩
   have hi0:(0:Int)<=(k:Int):=by omega
   have hi1:(k:Int)<(nw:Int):=by omega
   generalize T k=a at *;generalize U k=b at *;generalize hab:a &&& b=ab at *;have HV:Hid _:=hv;clear hv hab
   by_cases h0:ab=0
   ·have hz:(bits BinOp.and IntKind.u64 (a:Int) (b:Int) != 0)=false:=by rw[HV.out,h0];rfl
    go_wp2
    go_roundw
    case rel=>exact⟨k+1,by omega,by go_num,hb,by show _=_;rw[Ho.out,h0];rfl⟩
    case measure=>simp[intOf];omega
   ·have hz:(bits BinOp.and IntKind.u64 (a:Int) (b:Int) != 0)=true:=by rw[HV.out];simp;omega
    go_wp2;go_ret;exact⟨zae (Hm.out (by rw[Ho.out];simp;omega)).symm,hb⟩
  ·have hkk:k=nw:=by omega
   subst hkk;go_wp2;go_ret;exact⟨zae HF.out.symm,hb⟩
def za0:Nat->Nat:=fun _=>0
theorem zcg(p:Nat):zai za0 p=false:=by simp[zai,za0]
theorem zeM(n:Nat):(madeCells (Value.int .u64 0).cells (n*1)).toList.toArray=zcS n za0:=by
 apply Array.ext_getElem?
 intro i
 by_cases h:i<n
 ·simp[madeCells,zcS,za0,Value.cells,Nat.mod_one,h]
 ·simp[madeCells,zcS,h]
theorem Tryz.infoU64:(Tryz.prog.info? 236).map (fun i=>(i.zero,i.size,i.bytes))=some (some (.int .u64 0),1,8):=by kernel_rfl
theorem ze9{base:Nat}{e:TypeId}{xs:List Value}(h:w.ownsRow base e 1 (.slice (some ⟨g,0,none⟩) n n) n xs):w.heap[g]?=some (.cells xs.toArray e (0,0)):=by
 rcases h.2 with ⟨h,_⟩|⟨g',cap,cr,h,_,hrow,_,_,hsz,htk⟩
 ·cases h
 ·cases h
  rw[hrow]
  congr 2
  apply Array.ext'
  rw[zvC (by simp[hsz])] at htk;rw[htk]
def zfu(w:World)(bt nw:Nat)(sv fv:Value):Prop:=w.heap[bt]?=some (.cells #[.int .i64 nw,sv,fv] 268 (0,0))
theorem zeO(nw bt:Nat)(sv fv:Value)(w:World)(hb:zfu w bt nw sv fv)(hnw:nw<=1000):
  Calls Tryz.prog 164 #[.pointer (some ⟨bt,0,none⟩)] w fun e w'=>e=.returned (.slice (some ⟨w.heap.size,0,none⟩) nw nw)/\zar w' nw w.heap.size za0/\w.grownBy w' none:=by
 obtain⟨i0,hi,hz0,hz1,hz2⟩:=info_parts Tryz.infoU64;have c0:w.cell? ⟨bt,0,none⟩=some (.int .i64 nw):=(zvW _ _ _ _ _ _ hb:w.cell? ⟨bt,0,none⟩=_)
 go_enter Tryz.func164,Tryz.ntmps164
 go_wp2_with (refine wpList_make_full _ rfl _ _ 193 rfl w.heap.size 236 i0 _ 1 Tryz.underlying193 hi hz0 hz1 _ _ _ _ nw rfl rfl rfl rfl (by rw[hz2];omega) (by unfold maxLen;omega) (zvJ _) ?_;intro w1 hown hgrow)
 go_ret
 refine⟨rfl,⟨?_,fun _=>by simp[za0]⟩,hgrow⟩;rw[ze9 hown,zeM]
end
structure zfv(H:Nat)(A B:World):Prop where
 os:B.os=A.os
 tape:B.tape=A.tape
 output:B.output=A.output
 size:A.heap.size<=B.heap.size
 same:∀k o,A.heap[k]?=some o->(k<H\/o.isCells=true)->B.heap[k]?=some o
theorem zfv.put{H l:Nat}{A:World}{o:Obj}(hH:H<=l)(hl:A.heap[l]?=some o)(ho:o.isCells=false)(o':Obj):zfv H A (A.putObj l o'):=
 ⟨rfl,rfl,rfl,by simp,fun k o2 hk h=>by
  refine(World.putObj_heap_other ?_).trans hk;rintro rfl;rw[hl] at hk;cases hk;rcases h with h|h
  ·omega
  ·rw[ho] at h;cases h⟩
def SeqR{α:Type}(n:Nat)(P:Program)(g:Nat)(fb lb:Array Value)(encs:α->Array Value)(T:List Nat)(S Sp:List α->Prop)(N:Nat)(w:World):Prop:=
 ∀(l:Nat) (J Jx:List α->World->Prop) (W:World),(∀k∈T,W.heap[k]?=w.heap[k]?)->
  (∀pre x W1,J pre W1->pre.length<N->YieldAt Fence.wide (n-1) P l (encs x) W1 fun e W'=>
   (e=.returned (.bool true)/\J (pre++[x]) W'/\∀k∈T,W'.heap[k]?=W1.heap[k]?)\/(e=.returned (.bool false)/\Jx (pre++[x]) W'))->
  J [] W->
  CallsIn Fence.wide n P g (fb++#[.func (.yield l) #[] #[]]++lb) W fun e W'=>(∃v,e=.returned v)/\((∃xs,S xs/\J xs W')\/(∃pre,Sp pre/\Jx pre W'))
theorem zct{α:Type}{n:Nat}{P:Program}{g:Operand}{ps:Array Tmp}{assign body:Code}{Q:Exit->Act->World->Prop}{a:Act}{w:World}(h1:1<=n)
  {gf:Nat} {fb lb:Array Value} (hg:a.eval g=.func (.func gf) fb lb) (eg:∀args w,(callFunc gf args).run P w=.ok (.enter gf args) w)
  {encs:α->Array Value} {T:List Nat} {S Sp:List α->Prop} {N:Nat} (hT:∀k∈T,k<w.heap.size) (hseq:SeqR (n-1) P gf fb lb encs T S Sp N w) (hps:∀x,(encs x).size=ps.size)
  (I:List α->World->Prop) (Ix:Code->List α->World->Prop) (hI:∀s A B,I s A->zfv w.heap.size A B->I s B) (hIx:∀c s A B,Ix c s A->zfv w.heap.size A B->Ix c s B) (h0:I [] w) (a₁:α->Act)
  (hassign:∀(l:Nat) (x:α) (W:World) (K:Act->World->Prop),K (a₁ x) W->
   assign.wpIn (Fence.wide.inRound l) (n-1-1) P (Exit.then K (fun _ _ _=>False)) {tmps:=(ps.zip (encs x)).foldl (fun t (p,v)=>t.setIfInBounds p v) a.tmps,defers:=[]} W)
  (hbody:∀(l:Nat) (pre:List α) (x:α) (W:World),w.heap.size<=l->I pre W->pre.length<N->body.wpIn (Fence.wide.inRound l) (n-1-1) P (ownPostG w.heap.size (fun A B=>∀k∈T,B.heap[k]?=A.heap[k]?) I Ix (pre++[x]) W) (a₁ x) W)
  (hdone:∀(D:Nat) (xs:List α) (W:World),w.heap.size<=D->S xs->I xs W->W.heap[D]?=some (.deferred (some []))->Q .normal {a with defers:={target:=.collected D,args:=#[]} :: a.defers} W)
  (hstop:∀(D:Nat) (c:Code) (pre:List α) (W:World),w.heap.size<=D->Sp pre->Ix c pre W->W.heap[D]?=some (.deferred (some []))->c.wpIn Fence.wide n P Q {a with defers:={target:=.collected D,args:=#[]} :: a.defers} W):
  (Code.rangeFunc g ps assign body).wpIn Fence.wide n P Q a w:=by
 refine wpIn_rangeFunc fun fn hfn=>?_
 let rc:LoopState->Option Code->Loop:=fun st pe=>{state:=st,pending:=pe,fn,tmps:=a.tmps,params:=ps,assign,body,defers:=w.heap.size}
 obtain⟨W1,hW1⟩:∃W1,(w.alloc (.deferred (some []))).alloc (.loop (rc .ready none))=W1:=⟨_,rfl⟩;have t1:zfv w.heap.size w W1:=by
  rw[<-hW1];refine⟨rfl,rfl,rfl,by simp;omega,fun k o hk _=>?_⟩;have hlt:=(zuH.1 hk).1;rw[Below.heap_alloc _ _ k (by simp;omega),Below.heap_alloc _ _ k hlt,hk]
 have rec1:W1.heap[w.heap.size+1]?=some (.loop (rc .ready none)):=by
  rw[<-hW1];have:=World.alloc_heap_new (w.alloc (.deferred (some []))) (.loop (rc .ready none));rwa[World.size_alloc] at this
 have def1:W1.heap[w.heap.size]?=some (.deferred (some [])):=by rw[<-hW1,Below.heap_alloc _ _ _ (by simp),World.alloc_heap_new]
 refine⟨w.heap.size+1,[{target:=.collected w.heap.size,args:=#[]}],W1,{target:=.fn (.func gf) lb,args:=fb++#[.func (.yield (w.heap.size+1)) #[] #[]]},W1,gf,
  fb++#[.func (.yield (w.heap.size+1)) #[] #[]]++lb,W1,?_,?_,fun _ _=>trivial,?_,fun _=>h1,?_⟩
 ·rw[<-hW1];exact run_enterLoop_outer _ _ _ _ _
 ·simp only[resolve,hg];simp[go_sem]
 ·simp[invoke,go_sem,eg]
 refine(hseq (w.heap.size+1)
  (fun pre W=>I pre W/\W.heap[w.heap.size+1]?=some (.loop (rc .ready none))/\W.heap[w.heap.size]?=some (.deferred (some [])))
  (fun pre W=>∃c,Ix c pre W/\W.heap[w.heap.size+1]?=some (.loop (rc .done (some c)))/\W.heap[w.heap.size]?=some (.deferred (some [])))
  W1 ?_ ?_ ⟨hI _ _ _ h0 t1,rec1,def1⟩).mono ?_
 ·intro k hk;have:=hT k hk;rw[<-hW1,Below.heap_alloc _ _ k (by simp;omega),Below.heap_alloc _ _ k this]
 ·rintro pre x W ⟨hi,hl,hk⟩ hlen;have hlt:=(zuH.1 hl).1;refine⟨fn,_,assign,body,run_yield (P:=P) (args:=encs x) hl (hps x),roundIn_of_wpIn hfn (hassign _ x W _ ⟨_,run_beginRound hl rfl,?_⟩)⟩;have busy:(W.putObj (w.heap.size+1) (.loop (rc .busy none))).heap[w.heap.size+1]?=some (.loop (rc .busy none)):=World.putObj_heap_same hlt;have held:(W.putObj (w.heap.size+1) (.loop (rc .busy none))).heap[w.heap.size]?=some (.deferred (some [])):=(World.putObj_heap_other (by omega)).trans hk;refine wpIn_mono (hbody _ pre x _ (by omega) (hI _ _ _ hi (zfv.put (by omega) hl rfl _)) hlen) ?_;have fin:∀(jump:Option Code) (W3:World),KeepsFrom w.heap.size (W.putObj (w.heap.size+1) (.loop (rc .busy none))) W3->
    (Instr.endRound (w.heap.size+1) jump).run P W3=.ok (.bool jump.isNone) (W3.putObj (w.heap.size+1) (.loop (rc (if jump.isNone then .ready else .done) jump)))/\
    W3.heap[w.heap.size+1]?=some (.loop (rc .busy none))/\
    (W3.putObj (w.heap.size+1) (.loop (rc (if jump.isNone then .ready else .done) jump))).heap[w.heap.size+1]?=some (.loop (rc (if jump.isNone then .ready else .done) jump))/\
    (W3.putObj (w.heap.size+1) (.loop (rc (if jump.isNone then .ready else .done) jump))).heap[w.heap.size]?=some (.deferred (some [])):=fun jump W3 k3=>by
   have l3:=k3.same _ _ (by omega) busy rfl;exact⟨run_endRound (P:=P) jump l3,l3,World.putObj_heap_same (zuH.1 l3).1,(World.putObj_heap_other (by omega)).trans (k3.same _ _ (zvJ _) held rfl)⟩
  have bk:∀(A:World) (o:Obj) (k:Nat),k∈T->(A.putObj (w.heap.size+1) o).heap[k]?=A.heap[k]?:=fun A o k hk=>World.putObj_heap_other (by have:=hT k hk;omega)
  rintro e a3 W3 hp;cases e with
  |normal=>
   obtain⟨k3,b3,i3⟩:=hp;obtain⟨r,l3,l4,d4⟩:=fin none W3 k3;exact⟨_,_,r,.inl ⟨rfl,⟨hI _ _ _ i3 (zfv.put (by omega) l3 rfl _),l4,d4⟩,fun k hk=>by rw[bk _ _ k hk,b3 k hk,bk _ _ k hk]⟩⟩
  |ret=>
   obtain⟨k3,i3⟩:=hp;obtain⟨r,l3,l4,d4⟩:=fin (some .ret) W3 k3;exact⟨_,_,r,.inr ⟨rfl,.ret,hIx _ _ _ _ i3 (zfv.put (by omega) l3 rfl _),l4,d4⟩⟩
  |exit id=>
   obtain⟨k3,i3⟩:=hp;obtain⟨r,l3,l4,d4⟩:=fin (some (.exit id)) W3 k3;exact⟨_,_,r,.inr ⟨rfl,.exit id,hIx _ _ _ _ i3 (zfv.put (by omega) l3 rfl _),l4,d4⟩⟩
  |goto t=>
   obtain⟨k3,i3⟩:=hp;obtain⟨r,l3,l4,d4⟩:=fin (some (.goto t)) W3 k3;exact⟨_,_,r,.inr ⟨rfl,.goto t,hIx _ _ _ _ i3 (zfv.put (by omega) l3 rfl _),l4,d4⟩⟩
  |panic ch=>exact hp.elim
  |outgrown=>exact hp.elim
 ·rintro e W2 ⟨⟨v,rfl⟩,(⟨xs,hS,hi,hl,hk⟩|⟨pre,hSp,c,hi,hl,hk⟩)⟩
  ·exact⟨none,_,run_endLoop (P:=P) hl (by simp[rc]),hdone _ xs _ (zvJ _) hS (hI _ _ _ hi (zfv.put (by omega) hl rfl _)) ((World.putObj_heap_other (by omega)).trans hk)⟩
  ·exact⟨some c,_,run_endLoop (P:=P) hl (by simp[rc]),hstop _ c pre _ (zvJ _) hSp (hIx _ _ _ _ hi (zfv.put (by omega) hl rfl _)) ((World.putObj_heap_other (by omega)).trans hk)⟩
variable{T:Nat -> Nat}{k lo x j t:Nat}{pre:List Nat}
attribute [local go_sem] Oper.semAt_some
structure MemO(T:Nat->Nat)(k:Nat)(pre:List Nat):Prop where
 mem:∀p,p∈pre↔p<64*k/\zai T p=true
 len:pre.length<=64*k
structure MemI(T:Nat->Nat)(k x lo:Nat)(pre:List Nat):Prop where
 mem:∀p,p∈pre↔(p<64*k/\zai T p=true)\/(p/64=k/\zai T p=true/\x.testBit (p%64)=false)
 sub:∀i,x.testBit i=true->(T k).testBit i=true
 len:pre.length<=64*k+lo
 low:∀i,i<lo->x.testBit i=false
 le:lo<=64
theorem MemO.open_(h:MemO T k pre):MemI T k (T k) 0 pre:=by
 refine⟨fun p=>(h.mem p).trans ⟨.inl,?_⟩,fun _ h=>h,h.len,fun i hi=>absurd hi (zvQ _),by omega⟩;rintro (h1|⟨h1,h2,h3⟩)
 ·exact h1
 ·unfold zai at h2;rw[h1,h3] at h2;cases h2
theorem MemI.close(h:MemI T k 0 lo pre):MemO T (k+1) pre:=by
 refine⟨fun p=>(h.mem p).trans ⟨?_,?_⟩,by have:=h.len;have:=h.le;omega⟩
 ·rintro (⟨h1,h2⟩|⟨h1,h2,_⟩)
  ·exact⟨by omega,h2⟩
  ·exact⟨by omega,h2⟩
 ·rintro ⟨h1,h2⟩
  by_cases e:p<64*k
  ·exact .inl ⟨e,h2⟩
  ·exact .inr ⟨by omega,h2,by simp⟩
theorem zdU(hx:x=2 ^ j*(2*t+1))(i:Nat):(x &&& (x-1)).testBit i=(x.testBit i&&decide (i≠j)):=by
 have hp:0<2 ^ j:=Nat.two_pow_pos j;have e1:x-1=2 ^ j*(2*t)+(2 ^ j-1):=by rw[hx,Nat.mul_add,Nat.mul_one];omega
 rw[Nat.testBit_and];rcases zvN i j with h|h|h
 ·have:=(zkf j t).low i h;rw[<-hx] at this;rw[this];simp
 ·subst h;have:(x-1).testBit i=false:=by
   rw[e1,Nat.testBit_two_pow_mul_add _ (by omega),zv2 (by omega),zvR];simp
  rw[this];simp
 ·have:(x-1).testBit i=x.testBit i:=by
   rw[e1,Nat.testBit_two_pow_mul_add _ (by omega),zv2 (by omega),hx,Nat.testBit_two_pow_mul];have e3:decide (i>=j)=true:=by simp;omega
   rw[e3,zuN];obtain⟨d,hd⟩:∃d,i-j=d+1:=⟨i-j-1,by omega⟩;rw[hd,Nat.testBit_succ,Nat.testBit_succ]
   congr 1
   omega
  rw[this];have e2:decide (i≠j)=true:=by simp;omega
  rw[e2,Bool.and_true,Bool.and_self]
theorem MemI.step(h:MemI T k x lo pre)(hx:x=2 ^ j*(2*t+1))(hj:j<64):MemI T k (x &&& (x-1)) (j+1) (pre++[k*64+j])/\lo<=j:=by
 have hb:x.testBit j=true:=by rw[hx];exact(zkf j t).bit
 have hlo:lo<=j:=by
  rcases zvM j lo with h1|h1
  ·rw[h.low j h1] at hb;cases hb
  ·exact h1
 refine⟨⟨fun p=>?_,fun i hi=>?_,by have:=h.len;simp;omega,fun i hi=>?_,by omega⟩,hlo⟩
 ·rw[zvo,h.mem p,zdU hx,zvv];constructor
  ·rintro ((h1|⟨h1,h2,h3⟩)|rfl)
   ·exact .inl h1
   ·exact .inr ⟨h1,h2,by rw[h3];rfl⟩
   ·refine .inr ⟨by omega,?_,?_⟩
    ·unfold zai;rw[show (k*64+j)/64=k by omega,show (k*64+j)%64=j by omega];exact h.sub j hb
    ·rw[show (k*64+j)%64=j by omega];simp
  ·rintro (h1|⟨h1,h2,h3⟩)
   ·exact .inl (.inl h1)
   ·by_cases e:p%64=j
    ·exact .inr (by omega)
    ·refine .inl (.inr ⟨h1,h2,?_⟩);have e2:decide (p%64≠j)=true:=by simp;exact e
     rw[e2,Bool.and_true] at h3;exact h3
 ·rw[zdU hx,zuK] at hi;exact h.sub i hi.1
 ·rw[zdU hx]
  by_cases e:i=j
  ·subst e;simp
  ·have:x.testBit i=false:=by rw[hx];exact(zkf j t).low i (by omega)
   rw[this];rfl
abbrev Mem(nw:Nat)(T:Nat->Nat):={p:Nat // p<64*nw/\zai T p=true}
def zco{nw:Nat}{T:Nat->Nat}(pre:List (Mem nw T)):List Nat:=pre.map Subtype.val
theorem zb6{nw:Nat}(pre:List (Mem nw T))(x:Mem nw T):zco (pre++[x])=zco pre++[x.1]:=by simp[zco]
theorem za7.keep{w w':World}(h:za7 w)(hk:w'.heap[0]?=w.heap[0]?):za7 w':=fun i hi=>(show w'.cell? ⟨0,i,none⟩=w.cell? ⟨0,i,none⟩ from World.cell?_of_block hk).trans (h i hi)
theorem znY(n l nw g cap:Nat)(T:Nat->Nat)(hn:1<=n)(hnw:nw<=1000)(J Jx:List (Mem nw T)->World->Prop)(W:World)
  (hY:∀pre x W1,J pre W1->pre.length<64*nw->YieldAt Fence.wide (n-1) Tryz.prog l #[.int .i64 (x.1:Nat)] W1 fun e W'=>
   (e=.returned (.bool true)/\J (pre++[x]) W'/\∀k∈[0,g],W'.heap[k]?=W1.heap[k]?)\/(e=.returned (.bool false)/\Jx (pre++[x]) W'))
  (hT:zar W nw g T) (hB:za7 W) (h0:J [] W):
  CallsIn Fence.wide n Tryz.prog 165 #[.slice (some ⟨g,0,none⟩) nw cap,.func (.yield l) #[] #[]] W fun e W'=>(∃v,e=.returned v)/\
   ((∃ys,(∀p,p∈zco ys↔p<64*nw/\zai T p=true)/\J ys W')\/(∃pre,True/\Jx pre W')):=by
 refine callsIn_of_wp Tryz.func165 rfl trivial ?_ rfl;simp only[Tryz.ntmps165,zvA,zvi,zvk,Nat.reduceAdd,Nat.reduceSub,zuI,zuJ,zvx,zuT,zvw,zuU];have HB:Hid (za7 W):=hB;clear hB
 gi_wp2
 gi_loopw [8] (fun i wr=>∃(k:Nat) (pre:List (Mem nw T)),k<=nw/\i=.int .i64 k/\Hid (MemO T k (zco pre))/\J pre wr/\zar wr nw g T/\Hid (za7 wr))
  (fun i _=>nw-(intOf i).toNat)
 case atStart=>exact⟨0,[],zvT _,rfl,⟨fun p=>by simp[zco],by simp[zco]⟩,h0,hT,HB⟩
 case round=>
  obtain⟨k,pre,hk,rfl,HM,hJs,hTs,HBs⟩:=hrel
  by_cases hlt:k<nw
  case neg=>
   have hkk:k=nw:=by omega
   subst hkk
   gi_wp2
   go_end0
   exact⟨⟨_,rfl⟩,.inl ⟨pre,HM.out.mem,hJs⟩⟩
  have c0:=hTs.cell hlt;have hi0:(0:Int)<=(k:Int):=by omega
  have hi1:(k:Int)<(nw:Int):=by omega
  gi_wp2
  gi_loopw [5] (fun v wr=>∃(x lo:Nat) (pre:List (Mem nw T)),v=.int .u64 x/\x<18446744073709551616/\Hid (MemI T k x lo (zco pre))/\J pre wr/\zar wr nw g T/\Hid (za7 wr))
   (fun v _=>(intOf v).toNat)
  case atStart=>exact⟨T k,0,pre,rfl,hTs.lt k,HM.out.open_,hJs,hTs,HBs⟩
  case round=>
   clear HM hJs HBs c0;obtain⟨x,lo,pre,rfl,hx,HM,hJs,hTs,HBs⟩:=hrel
   by_cases h0x:x=0
   ·subst h0x
    gi_wp2
    go_roundw
    case rel=>exact⟨k+1,pre,by omega,by go_num,HM.out.close,hJs,hTs,HBs⟩
    case measure=>simp[intOf];omega
   ·obtain⟨j,t,hjt⟩:=zjg x x (zvJ _) (by omega);have hj:j<64:=by
     rcases zvM j 64 with h|h
     ·exact h
     ·have h1:2 ^ 64<=2 ^ j:=Nat.pow_le_pow_right (by omega) h;have h2:2 ^ j*1<=2 ^ j*(2*t+1):=Nat.mul_le_mul_left _ (by omega);rw[<-hjt,Nat.mul_one] at h2;have:(2:Nat) ^ 64=18446744073709551616:=by decide
      omega
    have hst:=HM.out.step hjt hj;have hmem:k*64+j<64*nw/\zai T (k*64+j)=true:=by
     refine⟨by omega,?_⟩;unfold zai;rw[show (k*64+j)/64=k by omega,show (k*64+j)%64=j by omega];exact HM.out.sub j (by rw[hjt];exact(zkf j t).bit)
    have HM2:Hid (MemI T k (x &&& (x-1)) (j+1) (zco (pre++[(⟨k*64+j,hmem⟩:Mem nw T)]))):=by rw[zb6];exact hst.1
    have hlen:pre.length<64*nw:=by have h6:=hst.2;have h5:=HM.out.len;simp only[zco,zvj] at h5;omega
    have Hjt:Hid _:=hjt;have hxp:0<x:=by omega
    have hne:((x:Int) != 0)=true:=by simp;omega
    have hsub:IntKind.u64.wrap ((x:Int)-1)=((x-1:Nat):Int):=by
     rw[show (x:Int)-1=((x-1:Nat):Int) by omega,zjF,zvP (by omega)]
    have hand:=ziP x (x-1) hx (by omega);have hle:x &&& (x-1)<=x-1:=Nat.and_le_right;have htz:=fun(w:World) (h:Hid (za7 w))=>zuv x j t w Hjt hx hxp hj h
    have hwr:IntKind.i64.wrap ((k:Int)*64)=((k*64:Nat):Int):=by rw[IntKind.wrap_i64];omega
    obtain⟨fn,tmps,assign,body,hy,hR⟩:=hY pre ⟨k*64+j,hmem⟩ wr hJs hlen;dsimp only at hy;rw[show ((k*64+j:Nat):Int)=(k:Int)*64+(j:Int) by omega] at hy;clear hjt hst hY
    gi_wp2_with (refine⟨trivial,?_⟩;gi_at_call 148;refine(callsIn_wide.2 (htz _ HBs)).mono ?_;rintro e w' ⟨rfl,hw'⟩;subst w')
    refine hR.mono ?_;rintro e W3 (⟨rfl,hJ3,hk3⟩|⟨rfl,hJx3⟩)
    ·have hT3:zar W3 nw g T:=⟨(hk3 g (by simp)).trans hTs.row,hTs.lt⟩;have HB3:Hid (za7 W3):=HBs.out.keep (hk3 0 (by simp))
     gi_wp2
     go_roundw
     case rel=>exact⟨x &&& (x-1),j+1,_,by rw[<-hand],by omega,HM2.out,hJ3,hT3,HB3⟩
     case measure=>simp[intOf];omega
    ·gi_wp2
     refine zvV (results_none rfl _ _ _) rfl ?_;exact⟨⟨_,rfl⟩,.inr ⟨_,trivial,hJx3⟩⟩
theorem zcC(n nw g cap:Nat)(T:Nat->Nat)(hn:1<=n)(hnw:nw<=1000)(w:World)(hT:zar w nw g T)(hB:za7 w):
  SeqR n Tryz.prog 165 #[.slice (some ⟨g,0,none⟩) nw cap] #[] (fun x:Mem nw T=>#[.int .i64 (x.1:Int)]) [0,g] (fun ys=>∀p,p∈zco ys↔p<64*nw/\zai T p=true) (fun _=>True) (64*nw) w:=
 fun l J Jx W hW hY h0=>znY n l nw g cap T hn hnw J Jx W hY ⟨(hW g (by simp)).trans hT.row,hT.lt⟩ (hB.keep (hW 0 (by simp))) h0
end Go.Proofs.YtdimhpfiieepiaaGreatDoor
