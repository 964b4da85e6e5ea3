import Derived.Test.YthdljcdbfmhleaaGreatDoorC4
import Derived.Shelf.Lay
import Derived.Shelf.Strconv.Itoa0
import Derived.RangeFuncNested
import Derived.RangeFuncBound
import Derived.RangeFuncCalls
import Derived.RangeFuncLeaves
import Derived.Shelf.Abstract
import Derived.Shelf.RegionOpen
import Derived.WalkKit
import Derived.OwnWalkIn
import Derived.TacticsInMore
import Derived.LoopNIn
import Derived.LoopIn
namespace Go.Proofs
open Go.Shelf
shelf_lay Lays.n129 Nm 129 at Tryz as Tryz.lays129
end Go.Proofs
namespace Go.Proofs.YthdljcdbfmhleaaGreatDoor
set_option maxHeartbeats 1000000
set_option maxRecDepth 100000
open Go.RowKit
section
variable {w w':World}{nw g n:Nat}{T U:Nat -> Nat}
structure zal(w:World)(nw g:Nat)(T:Nat->Nat):Prop where
 row:w.heap[g]?=some (.cells (zca nw T) 185 (0,0))
 lt:∀i,T i<18446744073709551616
theorem zal.glt(h:zal w nw g T):g<w.heap.size:=(zrc.1 h.row).1
theorem zal.below(h:zal w nw g T)(hb:Below w.heap.size w w'):zal w' nw g T:=⟨(hb.block g h.glt).trans h.row,h.lt⟩
theorem zal.grown{o:Option Nat}(h:zal w nw g T)(hg:w.grownBy w' o)(hne:some g≠o):zal w' nw g T:=⟨(hg.block g h.glt hne).trans h.row,h.lt⟩
theorem zal.cell(h:zal w nw g T){i:Nat}(hi:i<nw):w.cell? ⟨g,i,none⟩=some (.int .u64 (T i:Int)):=by rw[zsm _ _ _ _ _ _ h.row,zei _ _ hi]
theorem zdW(h:∀i,i<n->T i=U i):zca n T=zca n U:=by
 unfold zca;rw[zrP fun i hi=>by rw[h i (by simpa using hi)]]
def orT(T U:Nat->Nat):Nat->Nat:=fun i=>T i ||| U i
def orK(T U:Nat->Nat)(k:Nat):Nat->Nat:=fun i=>if i<k then T i ||| U i else T i
theorem zpE(hT:∀i,T i<18446744073709551616)(hU:∀i,U i<18446744073709551616):∀i,orT T U i<18446744073709551616:=fun i=>Nat.or_lt_two_pow (n:=64) (hT i) (hU i)
theorem zeE(T U:Nat->Nat)(p:Nat):zae (orT T U) p=(zae T p || zae U p):=by simp[zae,orT]
theorem zqi(n:Nat)(T U:Nat->Nat)(k:Nat):zca n (fun j=>if j=k then T k ||| U k else orK T U k j)=zca n (orK T U (k+1)):=zdW fun i _=>by
 unfold orK
 by_cases e:i=k
 ·subst e;rw[zst rfl,zst (by omega)]
 ·rw[zss e]
  by_cases h:i<k
  ·rw[zst h,zst (by omega)]
  ·rw[zss h,zss (by omega)]
theorem zcv(nw g g2 cap cap2:Nat)(T U:Nat->Nat)(w:World)(hT:zal w nw g T)(hU:zal w nw g2 U)(hne:g≠g2)(hnw:nw<=1000):
  Calls Tryz.prog 112 #[.slice (some ⟨g,0,none⟩) nw cap,.slice (some ⟨g2,0,none⟩) nw cap2] w fun e w'=>e=.returned (.tuple #[])/\zal w' nw g (orT T U)/\w.grownBy w' (some g):=by
 go_enter Tryz.func112,Tryz.ntmps112
 go_wp2
 go_loopw [8] (fun i wr=>∃k:Nat,k<=nw/\i=.int .i64 k/\wr.heap[g]?=some (.cells (zca nw (orK T U k)) 185 (0,0))/\w.grownBy wr (some g))
  (fun i _=>nw-(intOf i).toNat)
 case atStart=>exact⟨0,zsj _,rfl,by rw[hT.row];rfl,World.grownBy.refl _ _⟩
 case round=>
  obtain⟨k,hk,rfl,hr,hg⟩:=hrel
  by_cases hlt:k<nw
  ·have c0:=(hU.grown hg (by simpa using hne.symm)).cell hlt;have c1:wr.cell? ⟨g,k,none⟩=some (.int .u64 (T k:Int)):=by
    rw[zsm _ _ _ _ _ _ hr,zei _ _ hlt];unfold orK;rw[zss (by omega)]
   have f1:=zso _ _ k _ _ hr;have HN:Hid ((wr.setCell ⟨g,k,none⟩ (.int .u64 ((T k ||| U k:Nat):Int))).heap[g]?=some (.cells (zca nw (orK T U (k+1))) 185 (0,0))):=by
    have:=zsr wr g k _ _ (.int .u64 ((T k ||| U k:Nat):Int)) hr;rw[ziO,zqi] at this;exact this
   have hv:=zpF _ _ (hT.lt k) (hU.lt k);rw[<-hv] at HN;clear hv hr;have hi0:(0:Int)<=(k:Int):=by omega
   have hi1:(k:Int)<(nw:Int):=by omega
   generalize T k=a at *;generalize U k=b at *;go_wp2
   go_roundw
   case rel=>exact⟨k+1,by omega,by go_num,HN.out,hg.trans (zaK _ _ _ _)⟩
   case measure=>simp[intOf];omega
  ·have hkk:k=nw:=by omega
   subst hkk;go_wp2
   go_end0
   exact⟨rfl,⟨by rw[hr,zdW (U:=orT T U) fun i hi=>by unfold orK;rw[zst hi];rfl],zpE hT.lt hU.lt⟩,hg⟩
def zb8(nw:Nat)(T U:Nat->Nat):Bool:=(List.range nw).any fun i=>!(T i &&& U i==0)
theorem zlx(k:Nat)(T U:Nat->Nat):zb8 (k+1) T U=(zb8 k T U || !(T k &&& U k==0)):=by simp[zb8,List.range_succ]
theorem zfF(nw:Nat)(T U:Nat->Nat)(hT:∀i,T i<18446744073709551616):zb8 nw T U=true↔∃p,p<64*nw/\zae T p=true/\zae U p=true:=by
 constructor
 ·intro h;obtain⟨i,hi,h2⟩:=zrk.1 h;have hi':i<nw:=by simpa using hi
  have h3:T i &&& U i≠0:=by simpa using h2
  obtain⟨j,hj⟩:=Nat.exists_testBit_of_ne_zero h3;rw[Nat.testBit_and,zrf] at hj;have hj64:j<64:=by
   rcases zsd j 64 with h|h
   ·exact h
   ·have:=Nat.testBit_lt_two_pow (x:=T i) (i:=j) (zsc (hT i) (by rw[show (18446744073709551616:Nat)=2 ^ 64 by decide];exact Nat.pow_le_pow_right (by omega) h));rw[this] at hj;cases hj.1
  refine⟨i*64+j,by omega,?_,?_⟩
  ·unfold zae;rw[show (i*64+j)/64=i by omega,show (i*64+j)%64=j by omega];exact hj.1
  ·unfold zae;rw[show (i*64+j)/64=i by omega,show (i*64+j)%64=j by omega];exact hj.2
 ·rintro ⟨p,hp,h1,h2⟩;refine zrk.2 ⟨p/64,by simp;omega,?_⟩;have h3:(T (p/64) &&& U (p/64)).testBit (p%64)=true:=by rw[Nat.testBit_and];unfold zae at h1 h2;rw[h1,h2];rfl
  have:¬(T (p/64) &&& U (p/64))=0:=fun e=>by rw[e] at h3;simp at h3
  simpa using this
theorem zkD(nw g g2 cap cap2:Nat)(T U:Nat->Nat)(w:World)(hT:zal w nw g T)(hU:zal w nw g2 U)(hnw:nw<=1000):
  Calls Tryz.prog 130 #[.slice (some ⟨g,0,none⟩) nw cap,.slice (some ⟨g2,0,none⟩) nw cap2] w fun e w'=>e=.returned (.bool (zb8 nw T U))/\Below w.heap.size w w':=by
 go_enter Tryz.func130,Tryz.ntmps130
 go_wp2
 go_loopw [9] (fun i wr=>∃k:Nat,k<=nw/\i=.int .i64 k/\Below w.heap.size w wr/\Hid (zb8 k T U=false))
  (fun i _=>nw-(intOf i).toNat)
 case atStart=>exact⟨0,zsj _,rfl,Below.refl _ _,rfl⟩
 case round=>
  obtain⟨k,hk,rfl,hb,HF⟩:=hrel
  by_cases hlt:k<nw
  ·have c0:=(hT.below hb).cell hlt;have c1:=(hU.below hb).cell hlt;have hv:=zg5 _ _ (hT.lt k) (hU.lt k);have Ho:Hid (zb8 (k+1) T U=!(T k &&& U k==0)):=by show _=_;rw[zlx,HF.out,Bool.false_or]
   have Hm:Hid (zb8 (k+1) T U=true->zb8 nw T U=true):=by
    intro h;unfold zb8 at h ⊢;obtain⟨i,hi,h2⟩:=zrk.1 h;exact zrk.2 ⟨i,by simp at hi ⊢;omega,h2⟩
   have hi0:(0:Int)<=(k:Int):=by omega
   have hi1:(k:Int)<(nw:Int):=by omega
   generalize T k=a at *;generalize U k=b at *;generalize hab:a &&& b=ab at *;have HV:Hid _:=hv;clear hv hab
   by_cases h0:ab=0
   ·have hz:(bits BinOp.and IntKind.u64 (a:Int) (b:Int) != 0)=false:=by rw[HV.out,h0];rfl
    go_wp2
    go_roundw
    case rel=>exact⟨k+1,by omega,by go_num,hb,by show _=_;rw[Ho.out,h0];rfl⟩
    case measure=>simp[intOf];omega
   ·have hz:(bits BinOp.and IntKind.u64 (a:Int) (b:Int) != 0)=true:=by rw[HV.out];simp;omega
    go_wp2;go_ret;exact⟨zam (Hm.out (by rw[Ho.out];simp;omega)).symm,hb⟩
  ·have hkk:k=nw:=by omega
   subst hkk;go_wp2;go_ret;exact⟨zam HF.out.symm,hb⟩
def zaQ:Nat->Nat:=fun _=>0
theorem zbL(p:Nat):zae zaQ p=false:=by simp[zae,zaQ]
theorem zdN(n:Nat):(madeCells (Value.int .u64 0).cells (n*1)).toList.toArray=zca n zaQ:=by
 apply Array.ext_getElem?
 intro i
 by_cases h:i<n
 ·simp[madeCells,zca,zaQ,Value.cells,Nat.mod_one,h]
 ·simp[madeCells,zca,h]
theorem Tryz.infoU64:(Tryz.prog.info? 185).map (fun i=>(i.zero,i.size,i.bytes))=some (some (.int .u64 0),1,8):=by kernel_rfl
theorem zfR{base:Nat}{e:TypeId}{xs:List Value}(h:w.ownsRow base e 1 (.slice (some ⟨g,0,none⟩) n n) n xs):w.heap[g]?=some (.cells xs.toArray e (0,0)):=by
 rcases h.2 with ⟨h,_⟩|⟨g',cap,cr,h,_,hrow,_,_,hsz,htk⟩
 ·cases h
 ·cases h
  rw[hrow]
  congr 2
  apply Array.ext'
  rw[zr5 (by simp[hsz])] at htk;rw[htk]
def zeo(w:World)(bt nw:Nat)(sv fv:Value):Prop:=w.heap[bt]?=some (.cells #[.int .i64 nw,sv,fv] 207 (0,0))
theorem zdQ(nw bt:Nat)(sv fv:Value)(w:World)(hb:zeo w bt nw sv fv)(hnw:nw<=1000):
  Calls Tryz.prog 107 #[.pointer (some ⟨bt,0,none⟩)] w fun e w'=>e=.returned (.slice (some ⟨w.heap.size,0,none⟩) nw nw)/\zal w' nw w.heap.size zaQ/\w.grownBy w' none:=by
 obtain⟨i0,hi,hz0,hz1,hz2⟩:=info_parts Tryz.infoU64;have c0:w.cell? ⟨bt,0,none⟩=some (.int .i64 nw):=(zsm _ _ _ _ _ _ hb:w.cell? ⟨bt,0,none⟩=_)
 go_enter Tryz.func107,Tryz.ntmps107
 go_wp2_with (refine wpList_make_full _ rfl _ _ 129 rfl w.heap.size 185 i0 _ 1 Tryz.underlying129 hi hz0 hz1 _ _ _ _ nw rfl rfl rfl rfl (by rw[hz2];omega) (by unfold maxLen;omega) (zsa _) ?_;intro w1 hown hgrow)
 go_ret
 refine⟨rfl,⟨?_,fun _=>by simp[zaQ]⟩,hgrow⟩;rw[zfR hown,zdN]
end
section
attribute [local go_sem ↓] Go.wp_at_zero Go.wp_at_succ
theorem zoM(x:Nat)(w:World)(hx:x<18446744073709551616):
  Calls Tryz.prog 127 #[.int .u64 x] w fun e w'=>e=.returned (.int .i64 (Lib.bitLen x))/\w'=w:=by
 have:=Any.bits_Len64 Tryz.lays129 (x:Int) w (by omega) (by omega);rw[zri] at this;exact this
end
structure zep(H:Nat)(A B:World):Prop where
 os:B.os=A.os
 tape:B.tape=A.tape
 output:B.output=A.output
 size:A.heap.size<=B.heap.size
 same:∀k o,A.heap[k]?=some o->(k<H\/o.isCells=true)->B.heap[k]?=some o
theorem zep.put{H l:Nat}{A:World}{o:Obj}(hH:H<=l)(hl:A.heap[l]?=some o)(ho:o.isCells=false)(o':Obj):zep H A (A.putObj l o'):=
 ⟨rfl,rfl,rfl,by simp,fun k o2 hk h=>by
  refine(World.putObj_heap_other ?_).trans hk;rintro rfl;rw[hl] at hk;cases hk;rcases h with h|h
  ·omega
  ·rw[ho] at h;cases h⟩
def SeqR{α:Type}(n:Nat)(P:Program)(g:Nat)(fb lb:Array Value)(encs:α->Array Value)(T:List Nat)(S Sp:List α->Prop)(N:Nat)(w:World):Prop:=
 ∀(l:Nat) (J Jx:List α->World->Prop) (W:World),(∀k∈T,W.heap[k]?=w.heap[k]?)->
  (∀pre x W1,J pre W1->pre.length<N->YieldAt Fence.wide (n-1) P l (encs x) W1 fun e W'=>
   (e=.returned (.bool true)/\J (pre++[x]) W'/\∀k∈T,W'.heap[k]?=W1.heap[k]?)\/(e=.returned (.bool false)/\Jx (pre++[x]) W'))->
  J [] W->
  CallsIn Fence.wide n P g (fb++#[.func (.yield l) #[] #[]]++lb) W fun e W'=>(∃v,e=.returned v)/\((∃xs,S xs/\J xs W')\/(∃pre,Sp pre/\Jx pre W'))
theorem zbS{α:Type}{n:Nat}{P:Program}{g:Operand}{ps:Array Tmp}{assign body:Code}{Q:Exit->Act->World->Prop}{a:Act}{w:World}(h1:1<=n)
  {gf:Nat} {fb lb:Array Value} (hg:a.eval g=.func (.func gf) fb lb) (eg:∀args w,(callFunc gf args).run P w=.ok (.enter gf args) w)
  {encs:α->Array Value} {T:List Nat} {S Sp:List α->Prop} {N:Nat} (hT:∀k∈T,k<w.heap.size) (hseq:SeqR (n-1) P gf fb lb encs T S Sp N w) (hps:∀x,(encs x).size=ps.size)
  (I:List α->World->Prop) (Ix:Code->List α->World->Prop) (hI:∀s A B,I s A->zep w.heap.size A B->I s B) (hIx:∀c s A B,Ix c s A->zep w.heap.size A B->Ix c s B) (h0:I [] w) (a₁:α->Act)
  (hassign:∀(l:Nat) (x:α) (W:World) (K:Act->World->Prop),K (a₁ x) W->
   assign.wpIn (Fence.wide.inRound l) (n-1-1) P (Exit.then K (fun _ _ _=>False)) {tmps:=(ps.zip (encs x)).foldl (fun t (p,v)=>t.setIfInBounds p v) a.tmps,defers:=[]} W)
  (hbody:∀(l:Nat) (pre:List α) (x:α) (W:World),w.heap.size<=l->I pre W->pre.length<N->body.wpIn (Fence.wide.inRound l) (n-1-1) P (ownPostG w.heap.size (fun A B=>∀k∈T,B.heap[k]?=A.heap[k]?) I Ix (pre++[x]) W) (a₁ x) W)
  (hdone:∀(D:Nat) (xs:List α) (W:World),w.heap.size<=D->S xs->I xs W->W.heap[D]?=some (.deferred (some []))->Q .normal {a with defers:={target:=.collected D,args:=#[]} :: a.defers} W)
  (hstop:∀(D:Nat) (c:Code) (pre:List α) (W:World),w.heap.size<=D->Sp pre->Ix c pre W->W.heap[D]?=some (.deferred (some []))->c.wpIn Fence.wide n P Q {a with defers:={target:=.collected D,args:=#[]} :: a.defers} W):
  (Code.rangeFunc g ps assign body).wpIn Fence.wide n P Q a w:=by
 refine wpIn_rangeFunc fun fn hfn=>?_
 let rc:LoopState->Option Code->Loop:=fun st pe=>{state:=st,pending:=pe,fn,tmps:=a.tmps,params:=ps,assign,body,defers:=w.heap.size}
 obtain⟨W1,hW1⟩:∃W1,(w.alloc (.deferred (some []))).alloc (.loop (rc .ready none))=W1:=⟨_,rfl⟩;have t1:zep w.heap.size w W1:=by
  rw[<-hW1];refine⟨rfl,rfl,rfl,by simp;omega,fun k o hk _=>?_⟩;have hlt:=(zrc.1 hk).1;rw[Below.heap_alloc _ _ k (by simp;omega),Below.heap_alloc _ _ k hlt,hk]
 have rec1:W1.heap[w.heap.size+1]?=some (.loop (rc .ready none)):=by
  rw[<-hW1];have:=World.alloc_heap_new (w.alloc (.deferred (some []))) (.loop (rc .ready none));rwa[World.size_alloc] at this
 have def1:W1.heap[w.heap.size]?=some (.deferred (some [])):=by rw[<-hW1,Below.heap_alloc _ _ _ (by simp),World.alloc_heap_new]
 refine⟨w.heap.size+1,[{target:=.collected w.heap.size,args:=#[]}],W1,{target:=.fn (.func gf) lb,args:=fb++#[.func (.yield (w.heap.size+1)) #[] #[]]},W1,gf,
  fb++#[.func (.yield (w.heap.size+1)) #[] #[]]++lb,W1,?_,?_,fun _ _=>trivial,?_,fun _=>h1,?_⟩
 ·rw[<-hW1];exact run_enterLoop_outer _ _ _ _ _
 ·simp only[resolve,hg];simp[go_sem]
 ·simp[invoke,go_sem,eg]
 refine(hseq (w.heap.size+1)
  (fun pre W=>I pre W/\W.heap[w.heap.size+1]?=some (.loop (rc .ready none))/\W.heap[w.heap.size]?=some (.deferred (some [])))
  (fun pre W=>∃c,Ix c pre W/\W.heap[w.heap.size+1]?=some (.loop (rc .done (some c)))/\W.heap[w.heap.size]?=some (.deferred (some [])))
  W1 ?_ ?_ ⟨hI _ _ _ h0 t1,rec1,def1⟩).mono ?_
 ·intro k hk;have:=hT k hk;rw[<-hW1,Below.heap_alloc _ _ k (by simp;omega),Below.heap_alloc _ _ k this]
 ·rintro pre x W ⟨hi,hl,hk⟩ hlen;have hlt:=(zrc.1 hl).1;refine⟨fn,_,assign,body,run_yield (P:=P) (args:=encs x) hl (hps x),roundIn_of_wpIn hfn (hassign _ x W _ ⟨_,run_beginRound hl rfl,?_⟩)⟩;have busy:(W.putObj (w.heap.size+1) (.loop (rc .busy none))).heap[w.heap.size+1]?=some (.loop (rc .busy none)):=World.putObj_heap_same hlt;have held:(W.putObj (w.heap.size+1) (.loop (rc .busy none))).heap[w.heap.size]?=some (.deferred (some [])):=(World.putObj_heap_other (by omega)).trans hk;refine wpIn_mono (hbody _ pre x _ (by omega) (hI _ _ _ hi (zep.put (by omega) hl rfl _)) hlen) ?_;have fin:∀(jump:Option Code) (W3:World),KeepsFrom w.heap.size (W.putObj (w.heap.size+1) (.loop (rc .busy none))) W3->
    (Instr.endRound (w.heap.size+1) jump).run P W3=.ok (.bool jump.isNone) (W3.putObj (w.heap.size+1) (.loop (rc (if jump.isNone then .ready else .done) jump)))/\
    W3.heap[w.heap.size+1]?=some (.loop (rc .busy none))/\
    (W3.putObj (w.heap.size+1) (.loop (rc (if jump.isNone then .ready else .done) jump))).heap[w.heap.size+1]?=some (.loop (rc (if jump.isNone then .ready else .done) jump))/\
    (W3.putObj (w.heap.size+1) (.loop (rc (if jump.isNone then .ready else .done) jump))).heap[w.heap.size]?=some (.deferred (some [])):=fun jump W3 k3=>by
   have l3:=k3.same _ _ (by omega) busy rfl;exact⟨run_endRound (P:=P) jump l3,l3,World.putObj_heap_same (zrc.1 l3).1,(World.putObj_heap_other (by omega)).trans (k3.same _ _ (zsa _) held rfl)⟩
  have bk:∀(A:World) (o:Obj) (k:Nat),k∈T->(A.putObj (w.heap.size+1) o).heap[k]?=A.heap[k]?:=fun A o k hk=>World.putObj_heap_other (by have:=hT k hk;omega)
  rintro e a3 W3 hp;cases e with
  |normal=>
   obtain⟨k3,b3,i3⟩:=hp;obtain⟨r,l3,l4,d4⟩:=fin none W3 k3;exact⟨_,_,r,.inl ⟨rfl,⟨hI _ _ _ i3 (zep.put (by omega) l3 rfl _),l4,d4⟩,fun k hk=>by rw[bk _ _ k hk,b3 k hk,bk _ _ k hk]⟩⟩
  |ret=>
   obtain⟨k3,i3⟩:=hp;obtain⟨r,l3,l4,d4⟩:=fin (some .ret) W3 k3;exact⟨_,_,r,.inr ⟨rfl,.ret,hIx _ _ _ _ i3 (zep.put (by omega) l3 rfl _),l4,d4⟩⟩
  |exit id=>
   obtain⟨k3,i3⟩:=hp;obtain⟨r,l3,l4,d4⟩:=fin (some (.exit id)) W3 k3;exact⟨_,_,r,.inr ⟨rfl,.exit id,hIx _ _ _ _ i3 (zep.put (by omega) l3 rfl _),l4,d4⟩⟩
  |goto t=>
   obtain⟨k3,i3⟩:=hp;obtain⟨r,l3,l4,d4⟩:=fin (some (.goto t)) W3 k3;exact⟨_,_,r,.inr ⟨rfl,.goto t,hIx _ _ _ _ i3 (zep.put (by omega) l3 rfl _),l4,d4⟩⟩
  |panic ch=>exact hp.elim
  |outgrown=>exact hp.elim
 ·rintro e W2 ⟨⟨v,rfl⟩,(⟨xs,hS,hi,hl,hk⟩|⟨pre,hSp,c,hi,hl,hk⟩)⟩
  ·exact⟨none,_,run_endLoop (P:=P) hl (by simp[rc]),hdone _ xs _ (zsa _) hS (hI _ _ _ hi (zep.put (by omega) hl rfl _)) ((World.putObj_heap_other (by omega)).trans hk)⟩
  ·exact⟨some c,_,run_endLoop (P:=P) hl (by simp[rc]),hstop _ c pre _ (zsa _) hSp (hIx _ _ _ _ hi (zep.put (by omega) hl rfl _)) ((World.putObj_heap_other (by omega)).trans hk)⟩
end Go.Proofs.YthdljcdbfmhleaaGreatDoor
