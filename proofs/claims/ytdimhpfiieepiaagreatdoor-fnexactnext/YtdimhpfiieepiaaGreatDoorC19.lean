import Derived.Test.YtdimhpfiieepiaaGreatDoorC18
import Derived.RangeFuncNested
import Derived.RangeFuncBound
import Derived.RangeFuncCalls
import Derived.RangeFuncLeaves
import Derived.Shelf.Abstract
import Derived.Shelf.RegionOpen
import Derived.WalkKit
import Derived.OwnWalkIn
import Derived.TacticsInMore
import Derived.LoopNIn
import Derived.LoopIn
namespace Go.Proofs.YtdimhpfiieepiaaGreatDoor
open Proofs.Tryz
open Option renaming some->za,none->zc
open Value renaming slice->zd,int->zh,pointer->zl,agg->zm
open Go renaming World->ze,Value->zk,Calls->zn
open Obj renaming cells->zg
open RowKit renaming Below->zi,Hid->zj
set_option maxHeartbeats 4000000
set_option maxRecDepth 100000
open Go.RowKit
section
variable {w w':ze}{nw g n:Nat}{T U:Nat -> Nat}
structure aH(w:ze)(nw g:Nat)(T:Nat->Nat):Prop where
 row:w.heap[g]?=za (zg (kK nw T) 236 (0,0))
 lt:∀i,T i<18446744073709551616
theorem aH.cj(h:aH w nw g T):g<w.heap.size:=(ap.1 h.row).1
theorem aH.below(h:aH w nw g T)(hb:zi w.heap.size w w'):aH w' nw g T:=⟨(hb.block g h.cj).trans h.row,h.lt⟩
theorem aH.grown{o:Option Nat}(h:aH w nw g T)(hg:w.grownBy w' o)(hne:za g≠o):aH w' nw g T:=⟨(hg.block g h.cj hne).trans h.row,h.lt⟩
theorem aH.cell(h:aH w nw g T){i:Nat}(hi:i<nw):w.cell? ⟨g,i,zc⟩=za (.int .u64 (T i:Int)):=by rw[aO _ _ _ _ _ _ h.row,Pj _ _ hi]
theorem Vn(h:∀i,i<n->T i=U i):kK n T=kK n U:=by
 unfold kK;rw[Bo λi hi=>by rw[h i (by simpa using hi)]]
def eD(T U:Nat->Nat):Nat->Nat:=λi=>T i ||| U i
def EC(T U:Nat->Nat)(k:Nat):Nat->Nat:=λi=>if i<k then T i ||| U i else T i
theorem zsh(hT:∀i,T i<18446744073709551616)(hU:∀i,U i<18446744073709551616):∀i,eD T U i<18446744073709551616:=λi=>Nat.or_lt_two_pow (n:=64) (hT i) (hU i)
theorem Iy(T U:Nat->Nat)(p:Nat):ax (eD T U) p=(ax T p || ax U p):=by simp[ax,eD]
theorem zs0(n:Nat)(T U:Nat->Nat)(k:Nat):kK n (λj=>if j=k then T k ||| U k else EC T U k j)=kK n (EC T U (k+1)):=Vn λi _=>by
 unfold EC
 by_cases e:i=k
 ·subst e;rw[aD rfl,aD (by omega)]
 ·rw[aq e]
  by_cases h:i<k
  ·rw[aD h,aD (by omega)]
  ·rw[aq h,aq (by omega)]
theorem zu(nw g g2 cap fe:Nat)(T U:Nat->Nat)(w:ze)(hT:aH w nw g T)(hU:aH w nw g2 U)(hne:g≠g2)(bV:nw<=1000):
  zn prog 168 #[zd (za ⟨g,0,zc⟩) nw cap,zd (za ⟨g2,0,zc⟩) nw fe] w λe w'=>e=.returned (.tuple #[])/\aH w' nw g (eD T U)/\w.grownBy w' (za g):=by
 go_enter func168,ntmps168
 go_wp2
 go_loopw [8] (λi wr=>∃k:Nat,k<=nw/\i=zh .i64 k/\wr.heap[g]?=za (zg (kK nw (EC T U k)) 236 (0,0))/\w.grownBy wr (za g))
  (λi _=>nw-(intOf i).toNat)
 case atStart=>exact⟨0,aZ _,rfl,by rw[hT.row];rfl,World.grownBy.refl _ _⟩
 case round=>
  obtain⟨k,hk,rfl,hr,hg⟩:=hrel
  by_cases hlt:k<nw
  ·have c0:=(hU.grown hg (by simpa using hne.symm)).cell hlt;have c1:wr.cell? ⟨g,k,zc⟩=za (.int .u64 (T k:Int)):=by
    rw[aO _ _ _ _ _ _ hr,Pj _ _ hlt];unfold EC;rw[aq (by omega)]
   have f1:=cF _ _ k _ _ hr;have HN:zj ((wr.setCell ⟨g,k,zc⟩ (.int .u64 ((T k ||| U k:Nat):Int))).heap[g]?=za (zg (kK nw (EC T U (k+1))) 236 (0,0))):=by
    have:=dF wr g k _ _ (.int .u64 ((T k ||| U k:Nat):Int)) hr;rw[zkE,zs0]at this;exact this
   have hv:=zsi _ _ (hT.lt k) (hU.lt k);rw[<-hv]at HN;clear hv hr;have dO:(0:Int)<=(k:Int):=by omega
   have dh:(k:Int)<(nw:Int):=by omega
   generalize T k=a at *;generalize U k=b at *;go_wp2
   go_roundw
   case rel=>exact⟨k+1,by omega,by go_num,HN.out,hg.trans (jf _ _ _ _)⟩
   case measure=>simp[intOf];omega
  ·have bC:k=nw:=by omega
   subst bC;go_wp2
   go_end0
   exact⟨rfl,⟨by rw[hr,Vn (U:=eD T U) λi hi=>by unfold EC;rw[aD hi];rfl],zsh hT.lt hU.lt⟩,hg⟩
def kI(nw:Nat)(T U:Nat->Nat):Bool:=(List.range nw).any λi=>!(T i &&& U i==0)
theorem zns(k:Nat)(T U:Nat->Nat):kI (k+1) T U=(kI k T U || !(T k &&& U k==0)):=by simp[kI,List.range_succ]
theorem VS(nw:Nat)(T U:Nat->Nat)(hT:∀i,T i<18446744073709551616):kI nw T U=true↔∃p,p<64*nw/\ax T p=true/\ax U p=true:=by
 constructor
 ·intro h;obtain⟨i,hi,h2⟩:=Dm.1 h;have fh:i<nw:=by simpa using hi
  have h3:T i &&& U i≠0:=by simpa using h2
  obtain⟨j,hj⟩:=Nat.exists_testBit_of_ne_zero h3;rw[Nat.testBit_and,dE]at hj;have zAg:j<64:=by
   rcases gh j 64 with h|h
   ·exact h
   ·have:=Nat.testBit_lt_two_pow (x:=T i) (i:=j) (bA (hT i) (by rw[show (18446744073709551616:Nat)=2 ^ 64 by decide];exact Nat.pow_le_pow_right (by omega) h));rw[this]at hj;cases hj.1
  refine⟨i*64+j,by omega,?_,?_⟩
  ·unfold ax;rw[show (i*64+j)/64=i by omega,show (i*64+j)%64=j by omega];exact hj.1
  ·unfold ax;rw[show (i*64+j)/64=i by omega,show (i*64+j)%64=j by omega];exact hj.2
 ·rintro ⟨p,hp,h1,h2⟩;refine Dm.2 ⟨p/64,by simp;omega,?_⟩;have h3:(T (p/64) &&& U (p/64)).testBit (p%64)=true:=by rw[Nat.testBit_and];unfold ax at h1 h2;rw[h1,h2];rfl
  have:¬(T (p/64) &&& U (p/64))=0:=λe=>by rw[e]at h3;simp at h3
  simpa using this
theorem zml(nw g g2 cap fe:Nat)(T U:Nat->Nat)(w:ze)(hT:aH w nw g T)(hU:aH w nw g2 U)(bV:nw<=1000):
  zn prog 195 #[zd (za ⟨g,0,zc⟩) nw cap,zd (za ⟨g2,0,zc⟩) nw fe] w λe w'=>e=.returned (.bool (kI nw T U))/\zi w.heap.size w w':=by
 go_enter func195,ntmps195
 go_wp2
 go_loopw [9] (λi wr=>∃k:Nat,k<=nw/\i=zh .i64 k/\zi w.heap.size w wr/\zj (kI k T U=false))
  (λi _=>nw-(intOf i).toNat)
 case atStart=>exact⟨0,aZ _,rfl,Below.refl _ _,rfl⟩
 case round=>
  obtain⟨k,hk,rfl,hb,HF⟩:=hrel
  by_cases hlt:k<nw
  ·have c0:=(hT.below hb).cell hlt;have c1:=(hU.below hb).cell hlt;have hv:=PJ _ _ (hT.lt k) (hU.lt k);have Ho:zj (kI (k+1) T U=!(T k &&& U k==0)):=by show _=_;rw[zns,HF.out,Bool.false_or]
   have Hm:zj (kI (k+1) T U=true->kI nw T U=true):=by
    intro h;unfold kI at h ⊢;obtain⟨i,hi,h2⟩:=Dm.1 h;exact Dm.2 ⟨i,by simp at hi ⊢;omega,h2⟩
   have dO:(0:Int)<=(k:Int):=by omega
   have dh:(k:Int)<(nw:Int):=by omega
   generalize T k=a at *;generalize U k=b at *;generalize yL:a &&& b=ab at *;have HV:zj _:=hv;clear hv yL
   by_cases h0:ab=0
   ·have hz:(bits BinOp.and IntKind.u64 (a:Int) (b:Int) != 0)=false:=by rw[HV.out,h0];rfl
    go_wp2
    go_roundw
    case rel=>exact⟨k+1,by omega,by go_num,hb,by show _=_;rw[Ho.out,h0];rfl⟩
    case measure=>simp[intOf];omega
   ·have hz:(bits BinOp.and IntKind.u64 (a:Int) (b:Int) != 0)=true:=by rw[HV.out];simp;omega
    go_wp2;go_ret;exact⟨bF (Hm.out (by rw[Ho.out];simp;omega)).symm,hb⟩
  ·have bC:k=nw:=by omega
   subst bC;go_wp2;go_ret;exact⟨bF HF.out.symm,hb⟩
def cK:Nat->Nat:=λ_=>0
theorem Ba(p:Nat):ax cK p=false:=by simp[ax,cK]
theorem Vi(n:Nat):(madeCells (Value.int .u64 0).cells (n*1)).toList.toArray=kK n cK:=by
 apply Array.ext_getElem?
 intro i
 by_cases h:i<n
 ·simp[madeCells,kK,cK,Value.cells,Nat.mod_one,h]
 ·simp[madeCells,kK,h]
theorem Tryz.Ue:(prog.info? 236).map (λi=>(i.zero,i.size,i.bytes))=za (za (.int .u64 0),1,8):=by kernel_rfl
theorem O9{base:Nat}{e:TypeId}{xs:List zk}(h:w.ownsRow base e 1 (zd (za ⟨g,0,zc⟩) n n) n xs):w.heap[g]?=za (zg xs.toArray e (0,0)):=by
 rcases h.2 with ⟨h,_⟩|⟨g',cap,cr,h,_,mf,_,_,hsz,fL⟩
 ·cases h
 ·cases h
  rw[mf]
  congr 2
  apply Array.ext'
  rw[wL (by simp[hsz])]at fL;rw[fL]
def vf(w:ze)(bt nw:Nat)(sv fv:zk):Prop:=w.heap[bt]?=za (zg #[zh .i64 nw,sv,fv] 268 (0,0))
theorem Fl(nw bt:Nat)(sv fv:zk)(w:ze)(hb:vf w bt nw sv fv)(bV:nw<=1000):
  zn prog 164 #[zl (za ⟨bt,0,zc⟩)] w λe w'=>e=.returned (zd (za ⟨w.heap.size,0,zc⟩) nw nw)/\aH w' nw w.heap.size cK/\w.grownBy w' zc:=by
 obtain⟨i0,hi,bK,bh,bz⟩:=info_parts Tryz.Ue;have c0:w.cell? ⟨bt,0,zc⟩=za (zh .i64 nw):=(aO _ _ _ _ _ _ hb:w.cell? ⟨bt,0,zc⟩=_)
 go_enter func164,ntmps164
 go_wp2_with (refine wpList_make_full _ rfl _ _ 193 rfl w.heap.size 236 i0 _ 1 underlying193 hi bK bh _ _ _ _ nw rfl rfl rfl rfl (by rw[bz];omega) (by unfold maxLen;omega) (ai _) ?_;intro w1 az eF)
 go_ret
 refine⟨rfl,⟨?_,λ_=>by simp[cK]⟩,eF⟩;rw[O9 az,Vi]
end
structure vg(H:Nat)(A B:ze):Prop where
 os:B.os=A.os
 tape:B.tape=A.tape
 output:B.output=A.output
 size:A.heap.size<=B.heap.size
 same:∀k o,A.heap[k]?=za o->(k<H\/o.isCells=true)->B.heap[k]?=za o
theorem vg.put{H l:Nat}{A:ze}{o:Obj}(hH:H<=l)(hl:A.heap[l]?=za o)(ho:o.isCells=false)(o':Obj):vg H A (A.putObj l o'):=
 ⟨rfl,rfl,rfl,by simp,λk o2 hk h=>by
  refine(World.putObj_heap_other ?_).trans hk;rintro rfl;rw[hl]at hk;cases hk;rcases h with h|h
  ·omega
  ·rw[ho]at h;cases h⟩
def Q9{α:Type}(n:Nat)(P:Program)(g:Nat)(fb lb:Array zk)(ur:α->Array zk)(T:List Nat)(S Sp:List α->Prop)(N:Nat)(w:ze):Prop:=
 ∀(l:Nat) (J Jx:List α->ze->Prop) (W:ze),(∀k∈T,W.heap[k]?=w.heap[k]?)->
  (∀pre x W1,J pre W1->pre.length<N->YieldAt Fence.wide (n-1) P l (ur x) W1 λe W'=>
   (e=.returned (.bool true)/\J (pre++[x]) W'/\∀k∈T,W'.heap[k]?=W1.heap[k]?)\/(e=.returned (.bool false)/\Jx (pre++[x]) W'))->
  J [] W->
  CallsIn Fence.wide n P g (fb++#[.func (.yield l) #[] #[]]++lb) W λe W'=>(∃v,e=.returned v)/\((∃xs,S xs/\J xs W')\/(∃pre,Sp pre/\Jx pre W'))
theorem Ie{α:Type}{n:Nat}{P:Program}{g:Operand}{ps:Array Tmp}{assign body:Code}{Q:Exit->Act->ze->Prop}{a:Act}{w:ze}(h1:1<=n)
  {gf:Nat} {fb lb:Array zk} (hg:a.eval g=.func (.func gf) fb lb) (eg:∀args w,(callFunc gf args).run P w=.ok (.enter gf args) w)
  {ur:α->Array zk} {T:List Nat} {S Sp:List α->Prop} {N:Nat} (hT:∀k∈T,k<w.heap.size) (GX:Q9 (n-1) P gf fb lb ur T S Sp N w) (vS:∀x,(ur x).size=ps.size)
  (I:List α->ze->Prop) (Ix:Code->List α->ze->Prop) (hI:∀s A B,I s A->vg w.heap.size A B->I s B) (Ap:∀c s A B,Ix c s A->vg w.heap.size A B->Ix c s B) (h0:I [] w) (a₁:α->Act)
  (Sh:∀(l:Nat) (x:α) (W:ze) (K:Act->ze->Prop),K (a₁ x) W->
   assign.wpIn (Fence.wide.inRound l) (n-1-1) P (Exit.then K (λ_ _ _=>False)) {tmps:=(ps.zip (ur x)).foldl (λt (p,v)=>t.setIfInBounds p v) a.tmps,defers:=[]} W)
  (Sr:∀(l:Nat) (pre:List α) (x:α) (W:ze),w.heap.size<=l->I pre W->pre.length<N->body.wpIn (Fence.wide.inRound l) (n-1-1) P (ownPostG w.heap.size (λA B=>∀k∈T,B.heap[k]?=A.heap[k]?) I Ix (pre++[x]) W) (a₁ x) W)
  (hdone:∀(D:Nat) (xs:List α) (W:ze),w.heap.size<=D->S xs->I xs W->W.heap[D]?=za (.deferred (za []))->Q .normal {a with defers:={target:=.collected D,args:=#[]} :: a.defers} W)
  (KI:∀(D:Nat) (c:Code) (pre:List α) (W:ze),w.heap.size<=D->Sp pre->Ix c pre W->W.heap[D]?=za (.deferred (za []))->c.wpIn Fence.wide n P Q {a with defers:={target:=.collected D,args:=#[]} :: a.defers} W):
  (Code.rangeFunc g ps assign body).wpIn Fence.wide n P Q a w:=by
 refine wpIn_rangeFunc λfn vJ=>?_
 let rc:LoopState->Option Code->Loop:=λst pe=>{state:=st,pending:=pe,fn,tmps:=a.tmps,params:=ps,assign,body,defers:=w.heap.size}
 obtain⟨W1,cC⟩:∃W1,(w.alloc (.deferred (za []))).alloc (.loop (rc .ready zc))=W1:=⟨_,rfl⟩;have t1:vg w.heap.size w W1:=by
  rw[<-cC];refine⟨rfl,rfl,rfl,by simp;omega,λk o hk _=>?_⟩;have hlt:=(ap.1 hk).1;rw[Below.heap_alloc _ _ k (by simp;omega),Below.heap_alloc _ _ k hlt,hk]
 have UD:W1.heap[w.heap.size+1]?=za (.loop (rc .ready zc)):=by
  rw[<-cC];have:=World.alloc_heap_new (w.alloc (.deferred (za []))) (.loop (rc .ready zc));rwa[World.size_alloc]at this
 have Rz:W1.heap[w.heap.size]?=za (.deferred (za [])):=by rw[<-cC,Below.heap_alloc _ _ _ (by simp),World.alloc_heap_new]
 refine⟨w.heap.size+1,[{target:=.collected w.heap.size,args:=#[]}],W1,{target:=.fn (.func gf) lb,args:=fb++#[.func (.yield (w.heap.size+1)) #[] #[]]},W1,gf,
  fb++#[.func (.yield (w.heap.size+1)) #[] #[]]++lb,W1,?_,?_,λ_ _=>trivial,?_,λ_=>h1,?_⟩
 ·rw[<-cC];exact run_enterLoop_outer _ _ _ _ _
 ·simp only[resolve,hg];simp[go_sem]
 ·simp[invoke,go_sem,eg]
 refine(GX (w.heap.size+1)
  (λpre W=>I pre W/\W.heap[w.heap.size+1]?=za (.loop (rc .ready zc))/\W.heap[w.heap.size]?=za (.deferred (za [])))
  (λpre W=>∃c,Ix c pre W/\W.heap[w.heap.size+1]?=za (.loop (rc .done (za c)))/\W.heap[w.heap.size]?=za (.deferred (za [])))
  W1 ?_ ?_ ⟨hI _ _ _ h0 t1,UD,Rz⟩).mono ?_
 ·intro k hk;have:=hT k hk;rw[<-cC,Below.heap_alloc _ _ k (by simp;omega),Below.heap_alloc _ _ k this]
 ·rintro pre x W ⟨hi,hl,hk⟩ hlen;have hlt:=(ap.1 hl).1;refine⟨fn,_,assign,body,run_yield (P:=P) (args:=ur x) hl (vS x),roundIn_of_wpIn vJ (Sh _ x W _ ⟨_,run_beginRound hl rfl,?_⟩)⟩;have busy:(W.putObj (w.heap.size+1) (.loop (rc .busy zc))).heap[w.heap.size+1]?=za (.loop (rc .busy zc)):=World.putObj_heap_same hlt;have held:(W.putObj (w.heap.size+1) (.loop (rc .busy zc))).heap[w.heap.size]?=za (.deferred (za [])):=(World.putObj_heap_other (by omega)).trans hk;refine wpIn_mono (Sr _ pre x _ (by omega) (hI _ _ _ hi (vg.put (by omega) hl rfl _)) hlen) ?_;have fin:∀(jump:Option Code) (W3:ze),KeepsFrom w.heap.size (W.putObj (w.heap.size+1) (.loop (rc .busy zc))) W3->
    (Instr.endRound (w.heap.size+1) jump).run P W3=.ok (.bool jump.isNone) (W3.putObj (w.heap.size+1) (.loop (rc (if jump.isNone then .ready else .done) jump)))/\
    W3.heap[w.heap.size+1]?=za (.loop (rc .busy zc))/\
    (W3.putObj (w.heap.size+1) (.loop (rc (if jump.isNone then .ready else .done) jump))).heap[w.heap.size+1]?=za (.loop (rc (if jump.isNone then .ready else .done) jump))/\
    (W3.putObj (w.heap.size+1) (.loop (rc (if jump.isNone then .ready else .done) jump))).heap[w.heap.size]?=za (.deferred (za [])):=λjump W3 k3=>by
   have l3:=k3.same _ _ (by omega) busy rfl;exact⟨run_endRound (P:=P) jump l3,l3,World.putObj_heap_same (ap.1 l3).1,(World.putObj_heap_other (by omega)).trans (k3.same _ _ (ai _) held rfl)⟩
  have bk:∀(A:ze) (o:Obj) (k:Nat),k∈T->(A.putObj (w.heap.size+1) o).heap[k]?=A.heap[k]?:=λA o k hk=>World.putObj_heap_other (by have:=hT k hk;omega)
  rintro e a3 W3 hp;cases e with
  |normal=>
   obtain⟨k3,b3,i3⟩:=hp;obtain⟨r,l3,l4,d4⟩:=fin zc W3 k3;exact⟨_,_,r,.inl ⟨rfl,⟨hI _ _ _ i3 (vg.put (by omega) l3 rfl _),l4,d4⟩,λk hk=>by rw[bk _ _ k hk,b3 k hk,bk _ _ k hk]⟩⟩
  |ret=>
   obtain⟨k3,i3⟩:=hp;obtain⟨r,l3,l4,d4⟩:=fin (za .ret) W3 k3;exact⟨_,_,r,.inr ⟨rfl,.ret,Ap _ _ _ _ i3 (vg.put (by omega) l3 rfl _),l4,d4⟩⟩
  |exit id=>
   obtain⟨k3,i3⟩:=hp;obtain⟨r,l3,l4,d4⟩:=fin (za (.exit id)) W3 k3;exact⟨_,_,r,.inr ⟨rfl,.exit id,Ap _ _ _ _ i3 (vg.put (by omega) l3 rfl _),l4,d4⟩⟩
  |goto t=>
   obtain⟨k3,i3⟩:=hp;obtain⟨r,l3,l4,d4⟩:=fin (za (.goto t)) W3 k3;exact⟨_,_,r,.inr ⟨rfl,.goto t,Ap _ _ _ _ i3 (vg.put (by omega) l3 rfl _),l4,d4⟩⟩
  |panic ch=>exact hp.elim
  |outgrown=>exact hp.elim
 ·rintro e W2 ⟨⟨v,rfl⟩,(⟨xs,hS,hi,hl,hk⟩|⟨pre,R5,c,hi,hl,hk⟩)⟩
  ·exact⟨zc,_,run_endLoop (P:=P) hl (by simp[rc]),hdone _ xs _ (ai _) hS (hI _ _ _ hi (vg.put (by omega) hl rfl _)) ((World.putObj_heap_other (by omega)).trans hk)⟩
  ·exact⟨za c,_,run_endLoop (P:=P) hl (by simp[rc]),KI _ c pre _ (ai _) R5 (Ap _ _ _ _ hi (vg.put (by omega) hl rfl _)) ((World.putObj_heap_other (by omega)).trans hk)⟩
section
variable {T:Nat -> Nat}{k lo x j t:Nat}{pre:List Nat}
attribute [local go_sem] Oper.semAt_some
structure Nb(T:Nat->Nat)(k:Nat)(pre:List Nat):Prop where
 mem:∀p,p∈pre↔p<64*k/\ax T p=true
 len:pre.length<=64*k
structure BL(T:Nat->Nat)(k x lo:Nat)(pre:List Nat):Prop where
 mem:∀p,p∈pre↔(p<64*k/\ax T p=true)\/(p/64=k/\ax T p=true/\x.testBit (p%64)=false)
 sub:∀i,x.testBit i=true->(T k).testBit i=true
 len:pre.length<=64*k+lo
 low:∀i,i<lo->x.testBit i=false
 le:lo<=64
theorem Nb.open_(h:Nb T k pre):BL T k (T k) 0 pre:=by
 refine⟨λp=>(h.mem p).trans ⟨.inl,?_⟩,λ_ h=>h,h.len,λi hi=>absurd hi (dk _),by omega⟩;rintro (h1|⟨h1,h2,h3⟩)
 ·exact h1
 ·unfold ax at h2;rw[h1,h3]at h2;cases h2
theorem BL.close(h:BL T k 0 lo pre):Nb T (k+1) pre:=by
 refine⟨λp=>(h.mem p).trans ⟨?_,?_⟩,by have:=h.len;have:=h.le;omega⟩
 ·rintro (⟨h1,h2⟩|⟨h1,h2,_⟩)
  ·exact⟨by omega,h2⟩
  ·exact⟨by omega,h2⟩
 ·rintro ⟨h1,h2⟩
  by_cases e:p<64*k
  ·exact .inl ⟨e,h2⟩
  ·exact .inr ⟨by omega,h2,by simp⟩
theorem U8(hx:x=2 ^ j*(2*t+1))(i:Nat):(x &&& (x-1)).testBit i=(x.testBit i&&decide (i≠j)):=by
 have hp:0<2 ^ j:=Nat.two_pow_pos j;have e1:x-1=2 ^ j*(2*t)+(2 ^ j-1):=by rw[hx,Nat.mul_add,Nat.mul_one];omega
 rw[Nat.testBit_and];rcases Bn i j with h|h|h
 ·have:=(Mj j t).low i h;rw[<-hx]at this;rw[this];simp
 ·subst h;have:(x-1).testBit i=false:=by
   rw[e1,Nat.testBit_two_pow_mul_add _ (by omega),aq (by omega),zz];simp
  rw[this];simp
 ·have:(x-1).testBit i=x.testBit i:=by
   rw[e1,Nat.testBit_two_pow_mul_add _ (by omega),aq (by omega),hx,Nat.testBit_two_pow_mul];have e3:decide (i>=j)=true:=by simp;omega
   rw[e3,kM];obtain⟨d,hd⟩:∃d,i-j=d+1:=⟨i-j-1,by omega⟩;rw[hd,Nat.testBit_succ,Nat.testBit_succ]
   congr 1
   omega
  rw[this];have e2:decide (i≠j)=true:=by simp;omega
  rw[e2,Bool.and_true,Bool.and_self]
theorem BL.step(h:BL T k x lo pre)(hx:x=2 ^ j*(2*t+1))(hj:j<64):BL T k (x &&& (x-1)) (j+1) (pre++[k*64+j])/\lo<=j:=by
 have hb:x.testBit j=true:=by rw[hx];exact(Mj j t).bit
 have uE:lo<=j:=by
  rcases gh j lo with h1|h1
  ·rw[h.low j h1]at hb;cases hb
  ·exact h1
 refine⟨⟨λp=>?_,λi hi=>?_,by have:=h.len;simp;omega,λi hi=>?_,by omega⟩,uE⟩
 ·rw[er,h.mem p,U8 hx,eM];constructor
  ·rintro ((h1|⟨h1,h2,h3⟩)|rfl)
   ·exact .inl h1
   ·exact .inr ⟨h1,h2,by rw[h3];rfl⟩
   ·refine .inr ⟨by omega,?_,?_⟩
    ·unfold ax;rw[show (k*64+j)/64=k by omega,show (k*64+j)%64=j by omega];exact h.sub j hb
    ·rw[show (k*64+j)%64=j by omega];simp
  ·rintro (h1|⟨h1,h2,h3⟩)
   ·exact .inl (.inl h1)
   ·by_cases e:p%64=j
    ·exact .inr (by omega)
    ·refine .inl (.inr ⟨h1,h2,?_⟩);have e2:decide (p%64≠j)=true:=by simp;exact e
     rw[e2,Bool.and_true]at h3;exact h3
 ·rw[U8 hx,dE]at hi;exact h.sub i hi.1
 ·rw[U8 hx]
  by_cases e:i=j
  ·subst e;simp
  ·have:x.testBit i=false:=by rw[hx];exact(Mj j t).low i (by omega)
   rw[this];rfl
abbrev Mem(nw:Nat)(T:Nat->Nat):={p:Nat // p<64*nw/\ax T p=true}
def jC{nw:Nat}{T:Nat->Nat}(pre:List (Mem nw T)):List Nat:=pre.map Subtype.val
theorem CZ{nw:Nat}(pre:List (Mem nw T))(x:Mem nw T):jC (pre++[x])=jC pre++[x.1]:=by simp[jC]
theorem fG.keep{w w':ze}(h:fG w)(hk:w'.heap[0]?=w.heap[0]?):fG w':=λi hi=>(show w'.cell? ⟨0,i,zc⟩=w.cell? ⟨0,i,zc⟩from World.cell?_of_block hk).trans (h i hi)
theorem znt(n l nw g cap:Nat)(T:Nat->Nat)(hn:1<=n)(bV:nw<=1000)(J Jx:List (Mem nw T)->ze->Prop)(W:ze)
  (hY:∀pre x W1,J pre W1->pre.length<64*nw->YieldAt Fence.wide (n-1) prog l #[zh .i64 (x.1:Nat)] W1 λe W'=>
   (e=.returned (.bool true)/\J (pre++[x]) W'/\∀k∈[0,g],W'.heap[k]?=W1.heap[k]?)\/(e=.returned (.bool false)/\Jx (pre++[x]) W'))
  (hT:aH W nw g T) (hB:fG W) (h0:J [] W):
  CallsIn Fence.wide n prog 165 #[zd (za ⟨g,0,zc⟩) nw cap,.func (.yield l) #[] #[]] W λe W'=>(∃v,e=.returned v)/\
   ((∃ys,(∀p,p∈jC ys↔p<64*nw/\ax T p=true)/\J ys W')\/(∃pre,True/\Jx pre W')):=by
 refine callsIn_of_wp func165 rfl trivial ?_ rfl;simp only[ntmps165,yh,qg,oA,Nat.reduceAdd,Nat.reduceSub,Bl,Bm,Br,Bs,wJ,Bt];have HB:zj (fG W):=hB;clear hB
 gi_wp2
 gi_loopw [8] (λi wr=>∃(k:Nat) (pre:List (Mem nw T)),k<=nw/\i=zh .i64 k/\zj (Nb T k (jC pre))/\J pre wr/\aH wr nw g T/\zj (fG wr))
  (λi _=>nw-(intOf i).toNat)
 case atStart=>exact⟨0,[],aZ _,rfl,⟨λp=>by simp[jC],by simp[jC]⟩,h0,hT,HB⟩
 case round=>
  obtain⟨k,pre,hk,rfl,HM,Gp,rE,FK⟩:=hrel
  by_cases hlt:k<nw
  case neg=>
   have bC:k=nw:=by omega
   subst bC
   gi_wp2
   go_end0
   exact⟨⟨_,rfl⟩,.inl ⟨pre,HM.out.mem,Gp⟩⟩
  have c0:=rE.cell hlt;have dO:(0:Int)<=(k:Int):=by omega
  have dh:(k:Int)<(nw:Int):=by omega
  gi_wp2
  gi_loopw [5] (λv wr=>∃(x lo:Nat) (pre:List (Mem nw T)),v=.int .u64 x/\x<18446744073709551616/\zj (BL T k x lo (jC pre))/\J pre wr/\aH wr nw g T/\zj (fG wr))
   (λv _=>(intOf v).toNat)
  case atStart=>exact⟨T k,0,pre,rfl,rE.lt k,HM.out.open_,Gp,rE,FK⟩
  case round=>
   clear HM Gp FK c0;obtain⟨x,lo,pre,rfl,hx,HM,Gp,rE,FK⟩:=hrel
   by_cases h0x:x=0
   ·subst h0x
    gi_wp2
    go_roundw
    case rel=>exact⟨k+1,pre,by omega,by go_num,HM.out.close,Gp,rE,FK⟩
    case measure=>simp[intOf];omega
   ·obtain⟨j,t,fj⟩:=Wj x x (ai _) (by omega);have hj:j<64:=by
     rcases gh j 64 with h|h
     ·exact h
     ·have h1:2 ^ 64<=2 ^ j:=Nat.pow_le_pow_right (by omega) h;have h2:2 ^ j*1<=2 ^ j*(2*t+1):=Nat.mul_le_mul_left _ (by omega);rw[<-fj,Nat.mul_one]at h2;have:(2:Nat) ^ 64=18446744073709551616:=by decide
      omega
    have hst:=HM.out.step fj hj;have yV:k*64+j<64*nw/\ax T (k*64+j)=true:=by
     refine⟨by omega,?_⟩;unfold ax;rw[show (k*64+j)/64=k by omega,show (k*64+j)%64=j by omega];exact HM.out.sub j (by rw[fj];exact(Mj j t).bit)
    have yn:zj (BL T k (x &&& (x-1)) (j+1) (jC (pre++[(⟨k*64+j,yV⟩:Mem nw T)]))):=by rw[CZ];exact hst.1
    have hlen:pre.length<64*nw:=by have h6:=hst.2;have h5:=HM.out.len;simp only[jC,tU]at h5;omega
    have Hjt:zj _:=fj;have hxp:0<x:=by omega
    have hne:((x:Int) != 0)=true:=by simp;omega
    have zwq:IntKind.u64.wrap ((x:Int)-1)=((x-1:Nat):Int):=by
     rw[show (x:Int)-1=((x-1:Nat):Int) by omega,Wu,xZ (by omega)]
    have hand:=PJ x (x-1) hx (by omega);have hle:x &&& (x-1)<=x-1:=Nat.and_le_right;have htz:=λ(w:ze) (h:zj (fG w))=>ztQ x j t w Hjt hx hxp hj h
    have jx:IntKind.i64.wrap ((k:Int)*64)=((k*64:Nat):Int):=by rw[IntKind.wrap_i64];omega
    obtain⟨fn,tmps,assign,body,hy,hR⟩:=hY pre ⟨k*64+j,yV⟩ wr Gp hlen;dsimp only at hy;rw[show ((k*64+j:Nat):Int)=(k:Int)*64+(j:Int) by omega]at hy;clear fj hst hY
    gi_wp2_with (refine⟨trivial,?_⟩;gi_at_call 148;refine(callsIn_wide.2 (htz _ FK)).mono ?_;rintro e w' ⟨rfl,hw'⟩;subst w')
    refine hR.mono ?_;rintro e W3 (⟨rfl,JN,nW⟩|⟨rfl,JO⟩)
    ·have lV:aH W3 nw g T:=⟨(nW g (by simp)).trans rE.row,rE.lt⟩;have yi:zj (fG W3):=FK.out.keep (nW 0 (by simp))
     gi_wp2
     go_roundw
     case rel=>exact⟨x &&& (x-1),j+1,_,by rw[<-hand],by omega,yn.out,JN,lV,yi⟩
     case measure=>simp[intOf];omega
    ·gi_wp2
     refine bD (results_none rfl _ _ _) rfl ?_;exact⟨⟨_,rfl⟩,.inr ⟨_,trivial,JO⟩⟩
theorem LI(n nw g cap:Nat)(T:Nat->Nat)(hn:1<=n)(bV:nw<=1000)(w:ze)(hT:aH w nw g T)(hB:fG w):
  Q9 n prog 165 #[zd (za ⟨g,0,zc⟩) nw cap] #[] (λx:Mem nw T=>#[zh .i64 (x.1:Int)]) [0,g] (λys=>∀p,p∈jC ys↔p<64*nw/\ax T p=true) (λ_=>True) (64*nw) w:=
 λl J Jx W hW hY h0=>znt n l nw g cap T hn bV J Jx W hY ⟨(hW g (by simp)).trans hT.row,hT.lt⟩ (hB.keep (hW 0 (by simp))) h0
end
section
variable {S:Nat -> Prop}{w A B:ze}
attribute [local go_sem] Oper.semAt_some
structure aE(S:Nat->Prop)(w W:ze):Prop where
 os:W.os=w.os
 tape:W.tape=w.tape
 output:W.output=w.output
 size:w.heap.size<=W.heap.size
 same:∀k,k<w.heap.size->¬S k->W.heap[k]?=w.heap[k]?
theorem aE.refl(S:Nat->Prop)(w:ze):aE S w w:=⟨rfl,rfl,rfl,ai _,λ_ _ _=>rfl⟩
theorem aE.turn(h:aE S w A)(t:vg w.heap.size A B):aE S w B:=
 ⟨t.os.trans h.os,t.tape.trans h.tape,t.output.trans h.output,aU h.size t.size,λk hk hs=>by
  have e:=h.same k hk hs;have hA:k<A.heap.size:=bA hk h.size;rw[<-e,t.same k _ (wG hA) (.inl hk),wG hA]⟩
theorem aE.grown{o:Option Nat}(h:aE S w A)(hg:A.grownBy B o)(hS:∀g,o=za g->S g\/w.heap.size<=g):aE S w B:=
 ⟨hg.os.trans h.os,hg.tape.trans h.tape,hg.output.trans h.output,aU h.size hg.size,λk hk hs=>by
  refine(hg.block k (bA hk h.size) (λe=>?_)).trans (h.same k hk hs);rcases hS k e.symm with h1|h1
  ·exact hs h1
  ·omega⟩
theorem aE.trans(h:aE S w A)(k:aE S A B):aE S w B:=
 ⟨k.os.trans h.os,k.tape.trans h.tape,k.output.trans h.output,aU h.size k.size,λi hi hs=>(k.same i (bA hi h.size) hs).trans (h.same i hi hs)⟩
theorem aE.cH(h:zi w.heap.size w A):aE S w A:=⟨h.os,h.tape,h.output,h.size,λk hk _=>h.block k hk⟩
theorem aE.mono{S':Nat->Prop}(h:aE S w A)(hs:∀k,k<w.heap.size->S k->S' k):aE S' w A:=⟨h.os,h.tape,h.output,h.size,λk hk hn=>h.same k hk λq=>hn (hs k hk q)⟩
theorem aH.kF{W:ze}{nw g:Nat}{T:Nat->Nat}(h:aH w nw g T)(t:aE S w W)(hs:¬S g):aH W nw g T:=⟨(t.same g h.cj hs).trans h.row,h.lt⟩
structure FH(W:ze)(n nw:Nat)(fr:Nat->Nat)(F:Nat->Nat->Nat):Prop where
 rows:∀p,p<n->aH W nw (fr p) (F p)
 inj:∀p q,p<n->q<n->fr p=fr q->p=q
theorem zsT(n nw bt g1 c1 g2 c2:Nat)(sv fv:zk)(fr:Nat->Nat)(F:Nat->Nat->Nat)(T1 T2:Nat->Nat)(w:ze)
  (gU:vf w bt nw sv fv) (rN:0<n->∃gf cf:Nat,fv=zd (za ⟨gf,0,zc⟩) n cf/\gf<w.heap.size/\(∀p,p<n->w.cell? ⟨gf,p,zc⟩=za (zd (za ⟨fr p,0,zc⟩) nw nw))/\∀p,p<n->fr p≠gf) (hF:FH w n nw fr F) (h1:aH w nw g1 T1) (h2:aH w nw g2 T2)
  (oV:∀p,p<n->fr p≠g1) (lz:∀p,p<n->fr p≠g2) (AA:∀p,p<n->fr p≠0) (hdb:∀p,p<n->fr p≠bt) (hm:∀p,p<64*nw->ax T1 p=true->p<n) (zAp:n<=64*nw) (bV:nw<=1000) (hB:fG w) (h0:0<w.heap.size):
  zn prog 202 #[zl (za ⟨bt,0,zc⟩),zd (za ⟨g1,0,zc⟩) nw c1,zd (za ⟨g2,0,zc⟩) nw c2] w λe w'=>e=.returned (.tuple #[])/\FH w' n nw fr (λp=>if ax T1 p=true then eD (F p) T2 else F p)/\aE (λk=>∃p,p<n/\k=fr p) w w':=by
 refine(callsIn_wide (n:=5)).1 ?_;refine callsIn_of_wp_marks func202 rfl trivial ?_ rfl;simp only[ntmps202,yh,qg,oA,Nat.reduceAdd,Nat.reduceSub,Bl,Bm,Br,Bs,wJ,Bt]
 gi_wp2
 obtain⟨W0,ah⟩:∃W0,((w.alloc (zg #[zl (za ⟨bt,0,zc⟩)] 224)).alloc (zg #[zd (za ⟨g2,0,zc⟩) nw c2] 193))=W0:=⟨_,rfl⟩;have ae:zi w.heap.size w W0:=by rw[<-ah];exact(au).alloc (by simp) _
 have hsz:W0.heap.size=w.heap.size+1+1:=by rw[<-ah];simp
 have x3:W0.heap[w.heap.size]?=za (zg #[zl (za ⟨bt,0,zc⟩)] 224 (0,0)):=by rw[<-ah];exact cQ (aL _ _)
 have x5:W0.heap[w.heap.size+1]?=za (zg #[zd (za ⟨g2,0,zc⟩) nw c2] 193 (0,0)):=by
  rw[<-ah];have:=aL (w.alloc (zg #[zl (za ⟨bt,0,zc⟩)] 224)) (zg #[zd (za ⟨g2,0,zc⟩) nw c2] 193)
  simpa using this
 rw[ah];clear ah;have mQ:∀p,p<n->fr p<w.heap.size:=λp hp=>(hF.rows p hp).cj
 have jN:bt<w.heap.size:=(ap.1 gU).1;have y1:aH W0 nw g1 T1:=h1.below ae;have y2:aH W0 nw g2 T2:=h2.below ae;have yb:fG W0:=hB.keep (ae.block 0 h0);have yx:vf W0 bt nw sv fv:=(ae.block bt jN).trans gU;have yr:∀p,p<n->aH W0 nw (fr p) (F p):=λp hp=>(hF.rows p hp).below ae
 refine Ie (by omega) (gf:=165) (fb:=#[zd (za ⟨g1,0,zc⟩) nw c1]) (lb:=#[]) rfl (enters_of func165 (by kernel_rfl) rfl)
  (T:=[0,g1]) (by intro k hk;have:=y1.cj;simp at hk;omega)
  (LI 4 nw g1 c1 T1 (by omega) bV W0 y1 yb) (λ_=>rfl)
  (λpre W=>aE (λk=>∃p,p<n/\k=fr p) W0 W/\∀p,p<n->aH W nw (fr p) (if p∈jC pre then eD (F p) T2 else F p))
  (λ_ _ _=>False)
  (λs A B hs ht=>⟨hs.1.turn ht,λp hp=>⟨ht.same _ _ (hs.2 p hp).row (.inr rfl),(hs.2 p hp).lt⟩⟩)
  (λc s A B hs ht=>hs)
  ⟨aE.refl _ _,λp hp=>by rw[aq (by simp[jC])];exact yr p hp⟩
  (λx=>{tmps:=#[zl (za ⟨bt,0,zc⟩),zd (za ⟨g1,0,zc⟩) nw c1,zd (za ⟨g2,0,zc⟩) nw c2,zl (za ⟨w.heap.size,0,zc⟩),undef,zl (za ⟨w.heap.size+1,0,zc⟩),zh .i64 (x.1:Int),zd (za ⟨g1,0,zc⟩) nw c1,.func (.func 165) #[zd (za ⟨g1,0,zc⟩) nw c1] #[],zh .i64 (x.1:Int),undef,undef,undef,undef,undef,undef,undef,undef,undef],defers:=[]})
  ?assign ?body ?done ?stop
 case assign=>
  intro l x W K hK
  gi_wp2
  exact hK
 case stop=>
  rintro D c pre W hD _ hf;exact hf.elim
 case body=>
  rintro l pre ⟨x,hx⟩ W hl ⟨ht,hr⟩ hlen;have fF:=hm x hx.1 hx.2;obtain⟨gf,cf,rfl,Cs,rN,hdf⟩:=rN (by omega);have yf:∀p,p<n->W0.cell? ⟨gf,p,zc⟩=za (zd (za ⟨fr p,0,zc⟩) nw nw):=λp hp=>(ae.cell (p:=⟨gf,p,zc⟩) Cs).trans (rN p hp)
  have mh:¬∃p,p<n/\w.heap.size=fr p:=λ⟨p,hp,e⟩=>by have:=mQ p hp;omega
  have CH:¬∃p,p<n/\w.heap.size+1=fr p:=λ⟨p,hp,e⟩=>by have:=mQ p hp;omega
  have z3:W.cell? ⟨w.heap.size,0,zc⟩=za (zl (za ⟨bt,0,zc⟩)):=(aO _ _ _ _ _ _ ((ht.same _ (by omega) mh).trans x3):W.cell? ⟨w.heap.size,0,zc⟩=_);have z5:W.cell? ⟨w.heap.size+1,0,zc⟩=za (zd (za ⟨g2,0,zc⟩) nw c2):=(aO _ _ _ _ _ _ ((ht.same _ (by omega) CH).trans x5):W.cell? ⟨w.heap.size+1,0,zc⟩=_);have zb:W.cell? ⟨bt,2,zc⟩=za (zd (za ⟨gf,0,zc⟩) n cf):=(aO _ _ _ _ _ _ ((ht.same bt (by omega) (λ⟨p,hp,e⟩=>hdb p hp e.symm)).trans yx):W.cell? ⟨bt,2,zc⟩=_);have zf:W.cell? ⟨gf,x,zc⟩=za (zd (za ⟨fr x,0,zc⟩) nw nw):=(show W.cell? ⟨gf,x,zc⟩=W0.cell? ⟨gf,x,zc⟩from World.cell?_of_block (ht.same gf (by omega) (λ⟨p,hp,e⟩=>hdf p hp e.symm))).trans (yf x fF);have hj:=zu nw (fr x) g2 nw c2 _ T2 W.drew ⟨(hr x fF).row,(hr x fF).lt⟩ ⟨(y2.kF ht (λ⟨p,hp,e⟩=>lz p hp e.symm)).row,y2.lt⟩ (lz x fF) bV;have dO:(0:Int)<=(x:Int):=by omega
  have dh:(x:Int)<(n:Int):=by omega
  have fU:prog.follows Departure.mixedOrders=true:=by kernel_rfl
  dsimp only
  gi_wp2
  gi_region_with_o (refine⟨trivial,?_⟩;gi_at_call 168;refine(CallsIn.inRound l (callsIn_wide.2 hj)).mono ?_;rintro e w' ⟨rfl,tj,cY⟩)
  all_goals
   gi_wp2
   refine⟨KeepsFrom.of_grownBy (W:=W) (row:=za (fr x)) ⟨cY.os,cY.tape,cY.output,cY.size,cY.block⟩ (λj e=>by cases e;have:=mQ x fF;omega),λk hk=>?_,ht.grown (A:=W) (o:=za (fr x)) ⟨cY.os,cY.tape,cY.output,cY.size,cY.block⟩ (λg e=>by cases e;exact .inl ⟨x,fF,rfl⟩),λp hp=>?_⟩
   ·refine cY.block k ?_ (λe=>?_)
    ·have:=ht.size;have:=y1.cj;simp at hk;show k<W.heap.size;omega
    ·have e':k=fr x:=by simpa using e
     simp at hk;rcases hk with hk|hk
     ·exact AA x fF (by omega)
     ·exact oV x fF (by omega)
   ·rw[CZ]
    by_cases e:p=x
    ·subst e;rw[aD (by simp)];refine⟨?_,zsh (hF.rows p hp).lt h2.lt⟩;rw[tj.row]
     congr 2
     refine Vn λi _=>?_
     by_cases mR:p∈jC pre
     ·rw[aD mR];unfold eD;rw[Nat.or_assoc,Nat.or_self]
     ·rw[aq mR]
    ·have hq:=hr p hp;have e2:(p∈jC pre++[x])↔p∈jC pre:=by simp[e]
     refine⟨(cY.block (fr p) hq.cj (λq=>e (hF.inj p x hp fF (by simpa using q)))).trans ?_,?_⟩
     ·by_cases mR:p∈jC pre
      ·rw[aD (e2.2 mR)];rw[aD mR]at hq;exact hq.row
      ·rw[aq (λh=>mR (e2.1 h))];rw[aq mR]at hq;exact hq.row
     ·by_cases mR:p∈jC pre
      ·rw[aD (e2.2 mR)];rw[aD mR]at hq;exact hq.lt
      ·rw[aq (λh=>mR (e2.1 h))];rw[aq mR]at hq;exact hq.lt
 case done=>
  rintro D ys W hD jR ⟨ht,hr⟩ hK
  gi_wp2
  have qw:=grownBy_putObj' W D (.deferred zc);refine⟨by simp,.inl ⟨_,_,rfl,run_takeDeferred hK,?_⟩⟩;refine⟨.tuple #[],by simp[results,results202,go_sem],rfl,⟨λp hp=>?_,hF.inj⟩,(aE.cH ae).trans ?_⟩
  ·have hq:=hr p hp;have hpm:(p∈jC ys)↔ax T1 p=true:=(jR p).trans ⟨λh=>h.2,λh=>⟨by omega,h⟩⟩;have hne:fr p≠D:=by have:=mQ p hp;omega
   have mf:(W.putObj D (.deferred zc)).heap[fr p]?=W.heap[fr p]?:=World.putObj_heap_other hne
   by_cases hb:ax T1 p=true
   ·rw[aD hb];rw[aD (hpm.2 hb)]at hq;exact⟨mf.trans hq.row,hq.lt⟩
   ·rw[aq hb];rw[aq (λh=>hb (hpm.1 h))]at hq;exact⟨mf.trans hq.row,hq.lt⟩
  ·exact ht.grown qw (λg e=>.inr (by cases e;exact hD))
end
section
variable {w:ze}{nw g:Nat}
theorem aH.put{b o:Nat}{T:Nat->Nat}{v:zk}(h:aH w nw g T)(hne:g≠b):aH (w.setCell ⟨b,o,zc⟩ v) nw g T:=h.grown (jf w b o v) (by simpa using hne)
structure mI(w:ze)(nw ga gl:Nat)(A L:Nat->Nat):Prop where
 fi:aH w nw ga A
 la:aH w nw gl L
 ne:ga≠gl
theorem mI.below{w':ze}{ga gl:Nat}{A L:Nat->Nat}(h:mI w nw ga gl A L)(hb:zi w.heap.size w w'):mI w' nw ga gl A L:=⟨h.fi.below hb,h.la.below hb,h.ne⟩
def ztT(w:ze)(nw:Nat)(b:Bool)(e:Ending)(w':ze):Prop:=
 ∃ga gl:Nat,e=.returned (zm #[.bool b,zd (za ⟨ga,0,zc⟩) nw nw,zd (za ⟨gl,0,zc⟩) nw nw])/\w.heap.size<=ga/\w.heap.size<=gl/\mI w' nw ga gl cK cK/\zi w.heap.size w w'
theorem bW{a b c:zk}{t:TypeId}(h:w.heap[g]?=za (zg #[a,b,c] t (0,0))):w.cell? ⟨g,0,zc⟩=za a/\w.cell? ⟨g,1,zc⟩=za b/\w.cell? ⟨g,2,zc⟩=za c/\w.frozen? ⟨g,0,zc⟩=false/\w.frozen? ⟨g,1,zc⟩=false/\w.frozen? ⟨g,2,zc⟩=false:=by
 have:∀o,w.cell? ⟨g,o,zc⟩=#[a,b,c][o]?:=λ_=>aO _ _ _ _ _ _ h
 exact⟨this 0,this 1,this 2,cF _ _ 0 _ _ h,cF _ _ 1 _ _ h,cF _ _ 2 _ _ h⟩
theorem Wx(nw bt:Nat)(b:Bool)(sv fv:zk)(w:ze)(gU:vf w bt nw sv fv)(bV:nw<=1000):
  zn prog 190 #[zl (za ⟨bt,0,zc⟩),.bool b] w λe w'=>ztT w nw b e w':=by
 have jN:bt<w.heap.size:=(ap.1 gU).1;have ae:zi w.heap.size w (w.alloc (zg #[.bool false,zd zc 0 0,zd zc 0 0] 226)):=au;have x0:(w.alloc (zg #[.bool false,zd zc 0 0,zd zc 0 0] 226)).heap[w.heap.size]?=za (zg #[.bool false,zd zc 0 0,zd zc 0 0] 226 (0,0)):=aL _ _;have oZ:=Fl nw bt sv fv _ ((ae.block bt jN).trans gU) bV
 go_enter func190,ntmps190
 go_wp2_with fail
 refine oZ.mono ?_;rintro e w1 ⟨rfl,fD,eC⟩;have ak:zi w.heap.size w w1:=ae.grown eC (by simp) (λk e=>by cases e);have x1:=(eC.block _ (by simp) (by simp)).trans x0;have ky:=Fl nw bt sv fv w1 ((ak.block bt jN).trans gU) bV;simp only[World.size_alloc]at fD;obtain⟨ga,Ka⟩:∃ga,ga=w.heap.size+1:=⟨_,rfl⟩;rw[<-Ka]at fD;have zz3:w.heap.size<ga:=by omega
 go_wp2_with fail
 refine ky.mono ?_;rintro e w2 ⟨rfl,jc,bU⟩;have af:zi w.heap.size w w2:=ak.grown bU ak.size (λk e=>by cases e);have x2:=(bU.block _ (bA (by simp) eC.size) (by simp)).trans x1;have zyL:=fD.grown bU (by simp);obtain⟨c0,c1,c2,f0,f1,f2⟩:=bW x2;have ju:=fD.cj;have gW:=jc.cj;clear x0 x1 oZ ky eC bU ae fD;go_wp2;subst Ka;refine bD (v:=zm #[.bool b,zd (za ⟨w.heap.size+1,0,zc⟩) nw nw,zd (za ⟨w1.heap.size,0,zc⟩) nw nw]) (by simp[results,results190,go_sem,c0,c1,c2]) rfl ⟨_,_,rfl,by omega,by omega,⟨((zyL.put (by omega)).put (by omega)).put (by omega),((jc.put (by omega)).put (by omega)).put (by omega),by omega⟩,?_⟩;exact((af.setCell (p:=⟨w.heap.size,0,zc⟩) (by simp) _).setCell (p:=⟨w.heap.size,1,zc⟩) (by simp) _).setCell (p:=⟨w.heap.size,2,zc⟩) (by simp) _
def ztU(w:ze)(nw ga gl:Nat)(b:Bool)(A L:Nat->Nat)(e:Ending)(w':ze):Prop:=
 e=.returned (zm #[.bool b,zd (za ⟨ga,0,zc⟩) nw nw,zd (za ⟨gl,0,zc⟩) nw nw])/\mI w' nw ga gl A L/\aE (λk=>k=ga\/k=gl) w w'
theorem zoC(nw bt ga gl ha hl:Nat)(b c:Bool)(A L A' L':Nat->Nat)(w:ze)(h1:mI w nw ga gl A L)(h2:mI w nw ha hl A' L')(d1:ga≠ha)(d2:ga≠hl)(d4:gl≠hl)(bV:nw<=1000):
  zn prog 188 #[zl (za ⟨bt,0,zc⟩),zm #[.bool b,zd (za ⟨ga,0,zc⟩) nw nw,zd (za ⟨gl,0,zc⟩) nw nw],zm #[.bool c,zd (za ⟨ha,0,zc⟩) nw nw,zd (za ⟨hl,0,zc⟩) nw nw]] w λe w'=>ztU w nw ga gl (b || c) (eD A A') (eD L L') e w':=by
 obtain⟨W0,ah⟩:∃W0,((w.alloc (zg #[.bool b,zd (za ⟨ga,0,zc⟩) nw nw,zd (za ⟨gl,0,zc⟩) nw nw] 226)).alloc (zg #[.bool c,zd (za ⟨ha,0,zc⟩) nw nw,zd (za ⟨hl,0,zc⟩) nw nw] 226)).alloc (zg #[.bool false,zd zc 0 0,zd zc 0 0] 226)=W0:=⟨_,rfl⟩;have ae:zi w.heap.size w W0:=by rw[<-ah];exact((au).alloc (by simp) _).alloc (by simp;omega) _
 have x4:W0.heap[w.heap.size]?=za (zg #[.bool b,zd (za ⟨ga,0,zc⟩) nw nw,zd (za ⟨gl,0,zc⟩) nw nw] 226 (0,0)):=by rw[<-ah];exact cQ (cQ (aL _ _))
 have x5:W0.heap[w.heap.size+1]?=za (zg #[.bool c,zd (za ⟨ha,0,zc⟩) nw nw,zd (za ⟨hl,0,zc⟩) nw nw] 226 (0,0)):=by
  rw[<-ah];refine cQ ?_;have:=aL (w.alloc (zg #[.bool b,zd (za ⟨ga,0,zc⟩) nw nw,zd (za ⟨gl,0,zc⟩) nw nw] 226)) (zg #[.bool c,zd (za ⟨ha,0,zc⟩) nw nw,zd (za ⟨hl,0,zc⟩) nw nw] 226)
  simpa using this
 have x6:W0.heap[w.heap.size+1+1]?=za (zg #[.bool false,zd zc 0 0,zd zc 0 0] 226 (0,0)):=by
  rw[<-ah];have:=aL ((w.alloc (zg #[.bool b,zd (za ⟨ga,0,zc⟩) nw nw,zd (za ⟨gl,0,zc⟩) nw nw] 226)).alloc (zg #[.bool c,zd (za ⟨ha,0,zc⟩) nw nw,zd (za ⟨hl,0,zc⟩) nw nw] 226)) (zg #[.bool false,zd zc 0 0,zd zc 0 0] 226)
  simpa using this
 have l1:=h1.fi.cj;have l2:=h1.la.cj;have l3:=h2.fi.cj;have l4:=h2.la.cj;have hne:=h1.ne;have y1:=h1.below ae;have y2:=h2.below ae;have Eh:=zu nw ga ha nw nw A A' W0 y1.fi y2.fi d1 bV;have hsz:W0.heap.size=w.heap.size+1+1+1:=by rw[<-ah];simp
 obtain⟨a0,a1,a2,-,-,-⟩:=bW x4;obtain⟨b0,b1,b2,-,-,-⟩:=bW x5
 go_enter func188,ntmps188
 go_wp2_with fail
 clear a0 a1 a2 b0 b1 b2 ah;refine Eh.mono ?_;rintro e w1 ⟨rfl,fD,eC⟩;have dB:=eC.size;have u4:=(eC.block (w.heap.size) (by omega) (by simp;omega)).trans x4;have u5:=(eC.block (w.heap.size+1) (by omega) (by simp;omega)).trans x5;have u6:=(eC.block (w.heap.size+1+1) (by omega) (by simp;omega)).trans x6;have z1:=y1.la.grown eC (by simpa using hne.symm);have z2:=y2.la.grown eC (by simpa using d2.symm);have Cx:=zu nw gl hl nw nw L L' w1 z1 z2 d4 bV;obtain⟨a0,a1,a2,-,-,-⟩:=bW u4;obtain⟨b0,b1,b2,-,-,-⟩:=bW u5
 go_wp2_with fail
 clear a0 a1 a2 b0 b1 b2;refine Cx.mono ?_;rintro e w2 ⟨rfl,jc,bU⟩;have cZ:=bU.size;have v4:=(bU.block (w.heap.size) (by omega) (by simp;omega)).trans u4;have v5:=(bU.block (w.heap.size+1) (by omega) (by simp;omega)).trans u5;have v6:=(bU.block (w.heap.size+1+1) (by omega) (by simp;omega)).trans u6;have CF:=fD.grown bU (by simpa using hne);have ht:aE (λk=>k=ga\/k=gl) w w2:=((aE.cH ae).trans ((aE.refl _ W0).grown eC (λg e=>by cases e;exact .inl (.inl rfl)))).grown bU (λg e=>by cases e;exact .inl (.inr rfl));obtain⟨a0,a1,a2,-,-,-⟩:=bW v4;obtain⟨b0,b1,b2,-,-,-⟩:=bW v5;obtain⟨e0,e1,e2,f0,f1,f2⟩:=bW v6;clear Eh Cx eC bU x4 x5 x6 u4 u5 u6 v4 v5 v6 y1 y2 z1 z2 fD ae;cases b
 all_goals
  go_wp2;refine bD (v:=zm #[.bool _,zd (za ⟨ga,0,zc⟩) nw nw,zd (za ⟨gl,0,zc⟩) nw nw]) (by simp[results,results188,go_sem,e0,e1,e2]) rfl ⟨rfl,⟨((CF.put (by omega)).put (by omega)).put (by omega),((jc.put (by omega)).put (by omega)).put (by omega),hne⟩,?_⟩;exact((ht.grown (jf _ _ _ _) (λg e=>.inr (by cases e;omega))).grown (jf _ _ _ _) (λg e=>.inr (by cases e;omega))).grown (jf _ _ _ _) (λg e=>.inr (by cases e;omega))
end
attribute [local go_sem ↓] wp_at_zero wp_at_succ
def gM(f:Int×Int)(n:Nat):List (Int×Int):=f::List.replicate n (-1,-1)
theorem C8(f:Int×Int)(n:Nat):(gM f n).length=n+1:=by simp[gM]
theorem zpQ(sp:List (Int×Int))(a b:Int):pv (sp++[(a,b)])=pv sp++[zh .i64 a,zh .i64 b]:=by
 unfold pv;rw[pz,show [(a,b)].length=1 from rfl,zoR]
 congr 1
 ·exact zng _ λk hk=>by
   unfold xI;rw[cL,cL,qR hk]
 ·simp[xI,List.getD_eq_getElem?_getD]
theorem znI(f:Int×Int)(n:Nat):gM f (n+1)=gM f n++[(-1,-1)]:=by simp[gM,List.replicate_succ']
theorem ztH(w:ze)(B:Nat)(a b:Int)(hB:B<=w.heap.size)(H:Nat)(hH:w.heap.size=H):(w.alloc (zg #[zh .i64 a,zh .i64 b] 71)).ownsRow B 71 2 (zd (za ⟨H,0,zc⟩) 1 1) 1 (pv (gM (a,b) 0)):=by
 subst hH;refine⟨by simp[Bf,gM],.inr ⟨w.heap.size,1,#[zh .i64 a,zh .i64 b],rfl,hB,aL _ _,ai _,by unfold maxLen;omega,rfl,by simp[pv,xI,gM]⟩⟩
theorem zmq(v:zk)(G:Nat)(a b:Int)(w:ze)(hG:G<=500)(B:Nat)(hB:B<=w.heap.size):
  zn prog 31 #[zm #[v,zh .i64 G],zm #[zh .i64 a,zh .i64 b]] w λe w'=>∃g cap,e=.returned (zd (za ⟨g,0,zc⟩) (G+1) cap)/\w'.ownsRow B 71 2 (zd (za ⟨g,0,zc⟩) (G+1) cap) (G+1) (pv (gM (a,b) G))/\zi w.heap.size w w':=by
 obtain⟨i0,hi,bK,bh,bz⟩:=info_parts Tryz.Ud;obtain⟨W0,ah⟩:∃W0,((w.alloc (zg #[v,zh .i64 G] 69)).alloc (zg #[zh .i64 a,zh .i64 b] 71)).alloc (zg #[zh .i64 a,zh .i64 b] 71)=W0:=⟨_,rfl⟩;have ae:zi w.heap.size w W0:=by rw[<-ah];exact((au).alloc (by simp) _).alloc (by simp;omega) _
 have k0:W0.heap[w.heap.size]?=za (zg #[v,zh .i64 G] 69 (0,0)):=by rw[<-ah];exact cQ (cQ (aL _ _))
 have CL:W0.ownsRow B 71 2 (zd (za ⟨w.heap.size+1+1,0,zc⟩) 1 1) 1 (pv (gM (a,b) 0)):=by rw[<-ah];exact ztH _ _ _ _ (by simp;omega) _ (by simp)
 go_enter func31,ntmps31
 go_wp2;clear ah
 go_loopw [5,6] (λsv i wr=>∃k g cap:Nat,w.heap.size<=g/\k<=G/\sv=zd (za ⟨g,0,zc⟩) (k+1) cap/\i=zh .i64 ((k+1:Nat):Int)/\zi w.heap.size w wr/\wr.heap[w.heap.size]?=za (zg #[v,zh .i64 G] 69 (0,0))/\wr.ownsRow B 71 2 (zd (za ⟨g,0,zc⟩) (k+1) cap) (k+1) (pv (gM (a,b) k)))
  (λ_ i _=>G+1-(intOf i).toNat)
 case atStart=>exact⟨0,_,1,by omega,aZ _,rfl,rfl,ae,k0,CL⟩
 case round=>
  clear CL k0 ae;obtain⟨k,g,cap,xj,hk,rfl,rfl,hb,kr,own⟩:=hrel;have c1:wr.cell? ⟨w.heap.size,1,zc⟩=za (zh .i64 G):=(aO _ _ _ _ _ _ kr:wr.cell? ⟨w.heap.size,1,zc⟩=_);have hlw:w.heap.size<wr.heap.size:=uV kr;have hgw:g≠w.heap.size:=λe=>by
   rcases own.2 with ⟨h,_⟩|⟨g',c',aA,hv,_,hh,_⟩
   ·cases h
   ·cases hv
    rw[e,kr]at hh;injection hh with hh
    injection hh with _ hh
    exact absurd hh (by decide)
  by_cases hlt:k<G
  ·have hle:((k+1:Nat):Int)<=(G:Int):=by omega
   have hd:decide (((k+1:Nat):Int)<=(G:Int))=true:=by simp;omega
   have BF:zj (pv (gM (a,b) k)++[Value.int .i64 (-1),zh .i64 (-1)]=pv (gM (a,b) (k+1))):=by show _=_;rw[znI,zpQ]
   obtain⟨kk,bC⟩:∃kk,k+1=kk:=⟨_,rfl⟩;rw[bC]at hle hd own ⊢;have Dx:zj (k+1=kk):=bC;clear bC
   go_wp2_with (refine EN rfl (.tmp 15) (.tmp 17) 33 rfl wr #[zh .i64 (-1),zh .i64 (-1)] 71 rfl wr.heap.size rfl B i0 _ 2 16 underlying33 hi bK bh bz rfl (by omega) _ kk _ rfl own rfl rfl (by intro u hu;simp at hu;subst hu;rfl) (by omega) (by omega) (by have:=hb.size;omega) ?_;intro g1 sQ w1 mq kQ uh)
   have ak:=hb.grown kQ hb.size (by intro k' h;have h:za g=za k':=h;injection h with h;omega);have kr1:=(kQ.block _ hlw (by intro h;have h:za w.heap.size=za g:=h;injection h with h;omega)).trans kr;have eJ:w1.ownsRow B 71 2 (zd (za ⟨g1,0,zc⟩) (kk+1) sQ) (kk+1) (pv (gM (a,b) (k+1))):=by rw[<-BF.out];exact mq
   have eC:w.heap.size<=g1:=by
    rcases uh with h|h
    ·have h:za g=za g1:=h;injection h with h
     omega
    ·have:=hb.size;omega
   go_roundw
   case rel=>exact⟨k+1,g1,sQ,eC,by omega,by rw[Dx.out],by congr 1;have:=Dx.out;omega,ak,kr1,by have h:=eJ;rw[Dx.out]at h ⊢;exact h⟩
   case measure=>simp[intOf];have:=Dx.out;omega
  ·obtain rfl:k=G:=by omega
   have hd:decide (((k+1:Nat):Int)<=(k:Int))=false:=by simp;omega
   obtain⟨kk,bC⟩:∃kk,k+1=kk:=⟨_,rfl⟩;rw[bC]at hd own ⊢;have AB:¬kk<=k:=by omega
   have GB:decide (kk<=k)=false:=by simp;omega
   have Dx:zj (k+1=kk):=bC;clear bC;go_wp2;exact bD (v:=zd (za ⟨g,0,zc⟩) kk cap) (by simp[results,results31,go_sem]) rfl ⟨g,cap,by rw[Dx.out],by rw[Dx.out];exact own,hb⟩
theorem Ru{w2 W W':ze}{a b:Nat}{x0 x1 x2 y0 y1:zk}(ha:a<w2.heap.size)(hb:b<w2.heap.size)(h:zi w2.heap.size w2 W/\W.cell? ⟨a,0,zc⟩=za x0/\W.cell? ⟨a,1,zc⟩=za x1/\W.cell? ⟨a,2,zc⟩=za x2/\W.cell? ⟨b,0,zc⟩=za y0/\W.cell? ⟨b,1,zc⟩=za y1)(k:zi W.heap.size W W'):zi w2.heap.size w2 W'/\W'.cell? ⟨a,0,zc⟩=za x0/\W'.cell? ⟨a,1,zc⟩=za x1/\W'.cell? ⟨a,2,zc⟩=za x2/\W'.cell? ⟨b,0,zc⟩=za y0/\W'.cell? ⟨b,1,zc⟩=za y1:=by
 obtain⟨h0,h1,h2,h3,h4,h5⟩:=h;have hz:=h0.size;have hc:∀d o,d<w2.heap.size->W'.cell? ⟨d,o,zc⟩=W.cell? ⟨d,o,zc⟩:=λd o hl=>k.cell (p:=⟨d,o,zc⟩) (show d<_ by omega)
 exact⟨aj h0 h0.size k,(hc _ _ ha).trans h1,(hc _ _ ha).trans h2,(hc _ _ ha).trans h3,(hc _ _ hb).trans h4,(hc _ _ hb).trans h5⟩
def Bx(G:Int)(bs:List aW)(t:ByteArray)(a e:Int)(cl:Bool)(r:List (Int×Int)):Prop:=
 (¬sj G bs t a e cl/\r=[])\/(nD G bs t a e=true/\∃k,k<bs.length/\(∀j,j<k->¬iu (bs.getD j .zero) t a.toNat e.toNat cl)/\iu (bs.getD k .zero) t a.toNat e.toNat cl/\∃l,Pl t.data.toList (aK (bs.getD k .zero).nodes ((bs.getD k .zero).nodes.length-1)) a.toNat e.toNat l/\r=dK (gM (a,e) G.toNat) l)
def Mx(w:ze)(r:List (Int×Int))(e:Ending)(w':ze):Prop:=∃v,e=.returned v/\w'.ownsRow w.heap.size 71 2 v r.length (pv r)/\zi w.heap.size w w'
theorem zhI{lo:Nat}(G:Int)(v:zk)(bs:List aW)(t:ByteArray)(a e:Int)(cl:Bool)(r:List (Int×Int))(w:ze)(hs:eh lo w v bs)(hsm:Small bs)(hr:Bx G bs t a e cl r):
  zn prog 33 #[zm #[v,zh .i64 G],.string t,zh .i64 a,zh .i64 e,.bool cl] w λx w'=>Mx w r x w':=by
 have bX:=hs;obtain⟨ao,cap,rfl,hm,hc⟩:=hs;have ae:zi w.heap.size w (w.alloc (zg #[.slice ao bs.length cap,zh .i64 G] 69)):=au;have k0:(w.alloc (zg #[.slice ao bs.length cap,zh .i64 G] 69)).heap[w.heap.size]?=za (zg #[.slice ao bs.length cap,zh .i64 G] 69 (0,0)):=aL _ _;have hsp:=zkn G _ bs t a e _ (bX.below ae) hsm;have Hr:zj (Bx G bs t a e cl r):=hr;have wS:zj (∀W:ze,zi w.heap.size w W->r=[]->Mx w r (.returned (zd (za ⟨W.heap.size,0,zc⟩) 0 0)) (W.alloc (zg #[] 71))):=λW hb e=>by
  subst e;exact⟨_,rfl,LJ W _ 2 w.heap.size W.heap.size hb.size rfl,hb.alloc hb.size _⟩
 clear bX hr
 go_enter func33,ntmps33
 go_wp2_with fail
 refine hsp.mono ?_;rintro x w1 ⟨rfl,ak⟩;have bl:=aj ae ae.size ak;have p0:=ia k0 ak;have q0:w1.cell? ⟨w.heap.size,0,zc⟩=za (.slice ao bs.length cap):=(aO _ _ _ _ _ _ p0:w1.cell? ⟨w.heap.size,0,zc⟩=_);clear hsp ak ae k0;cases hq:nD G bs t a e
 ·have hN:Mx w r (.returned (zd (za ⟨w1.heap.size,0,zc⟩) 0 0)) (w1.alloc (zg #[] 71)):=wS.out w1 bl (by
   rcases Hr.out with h|h
   ·exact h.2
   ·rw[hq]at h;exact absurd h.1 (by simp))
  have HN:zj _:=hN;clear hN wS Hr;go_wp2;exact bD (v:=zd (za ⟨w1.heap.size,0,zc⟩) 0 0) (by simp[results,results33,go_sem]) rfl HN.out
 have tn:=hq;unfold nD gD at tn;simp only[dE,oD]at tn;obtain⟨⟨⟨⟨⟨⟨⟨ak,hGG⟩,-⟩,db⟩,-⟩,-⟩,-⟩,ht,Cj,Gu,GD⟩:=tn;have cR:=zhh (G:=G) (bs:=bs) (by unfold nD at hq;simp only[dE]at hq;exact hq.1);obtain⟨a',rfl⟩:∃a':Nat,a=a':=⟨a.toNat,by omega⟩;obtain⟨e',rfl⟩:∃e':Nat,e=e':=⟨e.toNat,by omega⟩;obtain⟨n,rfl⟩:∃n:Nat,G=n:=⟨G.toNat,by omega⟩;have zvs:a'<=e':=by omega
 have zvD:e'<=t.size:=by omega
 have Tm:n<=500:=by omega
 have uB:=λ(k:Nat) (hk:k<bs.length)=>by
  have yV:bs.getD k .zero∈bs:=by rw[cL,eY hk];exact oz _
  have im:=jl.1 db _ yV;simp only[dE]at im;exact(show _/\_ from⟨im,O8 _ im.1⟩)
 have fT:=λ(k:Nat) (hk:k<bs.length) (W:ze) (ao:Option Addr) (c:Nat) (h:dU lo W (.slice ao (bs.getD k .zero).nodes.length c) (bs.getD k .zero).nodes)=>zhL (bs.getD k .zero) ao c t a' e' cl W h (hsm.2 k hk).1 (uB k hk).1.1 (uB k hk).1.2 (uB k hk).2.2 (uB k hk).2.1 zvs zvD ht
 have TF:=λ(k:Nat) (hk:k<bs.length) (W:ze) (aV bm:Bool) (ao:Option Addr) (c:Nat) (h:dU lo W (.slice ao (bs.getD k .zero).nodes.length c) (bs.getD k .zero).nodes)=>zmz aV bm ao c (bs.getD k .zero).nodes t W h (hsm.2 k hk).1 (uB k hk).1.1
 have TB:=λ(k:Nat) (hk:k<bs.length)=>zpK (bs.getD k .zero).nodes (uB k hk).2.2 (uB k hk).1.2 ((bs.getD k .zero).nodes.length-1) (by have:=(uB k hk).2.1;omega)
 have zwv:=λ(k:Nat) (hk:k<bs.length)=>WD (bs.getD k .zero).nodes (uB k hk).2.2 (uB k hk).1.2 ((bs.getD k .zero).nodes.length-1) (by have:=(uB k hk).2.1;omega)
 have S8:=λ(k:Nat) (hk:k<bs.length)=>(show 0<(bs.getD k .zero).nodes.length/\(bs.getD k .zero).nodes.length<=1048576 from⟨(uB k hk).2.1,(hsm.2 k hk).1⟩)
 have Hq:zj _:=hq;have QB:zj _:=cR;have YK:zj _:=zwv;have hlen:=hsm.1;clear db hsm hq cR uB zwv;go_wp2
 go_loopw [23] (λi wr=>∃k:Nat,k<=bs.length/\i=zh .i64 k/\zi w.heap.size w wr/\wr.heap[w.heap.size]?=za (zg #[.slice ao bs.length cap,zh .i64 n] 69 (0,0))/\zj (∀j,j<k->¬iu (bs.getD j .zero) t a' e' cl))
  (λi _=>bs.length-(intOf i).toNat)
 case atStart=>exact⟨0,aZ _,rfl,bl,p0,λj hj=>absurd hj (dk _)⟩
 case round=>
  clear p0 q0 bl;obtain⟨k,hk,rfl,hb,kr,HN⟩:=hrel
  by_cases hlt:k<bs.length
  ·obtain⟨b,o,nv,bd,rfl,Hn,bu,c0,c1,c2,io⟩:=hc.elem hb hlt;have jM:=fT k hlt;have mW:=TF k hlt;have rP:=TB k hlt;have Tb:=S8 k hlt;have QQ:=YK.out k hlt;rw[Hn.out]at jM mW rP Tb QQ;have HTr:zj _:=QQ;obtain⟨dC,jd,rfl,kz,kU⟩:=io;have io:dU lo wr (.slice dC bd.nodes.length jd) bd.nodes:=⟨dC,jd,rfl,kz,kU⟩;obtain⟨W2,dH⟩:∃W2,wr.alloc (zg #[.bool bd.aV,.bool bd.bm,.slice dC bd.nodes.length jd] 115)=W2:=⟨_,rfl⟩;have bB:zi w.heap.size w W2:=by rw[<-dH];exact hb.alloc hb.size _
   have jr:zi wr.heap.size wr W2:=by rw[<-dH];exact au
   have kb:W2.heap[wr.heap.size]?=za (zg #[.bool bd.aV,.bool bd.bm,.slice dC bd.nodes.length jd] 115 (0,0)):=by rw[<-dH];exact aL _ _
   have kr2:=ia kr jr;have Tp:=io.below jr;have N2:=jM _ dC jd Tp;obtain⟨z0,z1,z2,-,-,-⟩:=bW kb;clear jM fT TF TB S8 kU hc io jr QQ YK;have HB:zj (iu (bs.getD k .zero) t a' e' cl=iu bd t a' e' cl):=by show _=_;rw[Hn.out]
   go_wp2_with fail
   refine N2.mono ?_;rintro x w2 ⟨q,rfl,nU,af⟩;have dL:=aj bB bB.size af;have OA:=ia kb af;have K7:=ia kr2 af;have zyH:=Tp.below af;clear N2 z0 z1 z2 Tp kb kr2 dH;cases q
   ·go_wp2
    go_roundw
    case rel=>exact⟨k+1,by omega,by go_num,dL,K7,λj hj=>by
     by_cases ej:j=k
     ·subst ej;rw[HB.out,<-nU];simp
     ·exact HN.out j (by omega)⟩
    case measure=>simp[intOf];omega
   ·have rz:iu bd t a' e' cl:=by first|exact nU.1 rfl|exact nU.1 trivial
    obtain⟨l,hl,hre⟩:∃l,Pl t.data.toList (aK bd.nodes (bd.nodes.length-1)) a' e' l/\r=dK (gM ((a':Int),(e':Int)) n) l:=by
     rcases Hr.out with ⟨h,_⟩|⟨_,j,hj,h1,h2,l,h3,h4⟩
     ·exact absurd ⟨Hq.out,k,hlt,by rw[show (a':Int).toNat=a' by omega,show (e':Int).toNat=e' by omega,HB.out];exact rz⟩ h
     ·rw[show (a':Int).toNat=a' by omega,show (e':Int).toNat=e' by omega]at h2 h3;rw[show (n:Int).toNat=n by omega]at h4;have e:j=k:=by
       rcases Bn j k with c|c|c
       ·exact absurd h2 (HN.out j c)
       ·exact c
       ·have:=h1 k c;rw[show (a':Int).toNat=a' by omega,show (e':Int).toNat=e' by omega,HB.out]at this;exact absurd rz this
      subst e;rw[Hn.out]at h3;exact⟨l,h3,h4⟩
    have fC:∀x∈l,1<=x.1/\x.1<((n+1:Nat):Int):=λx hx=>by
     have h1:=C9 _ _ _ _ hl x hx;have h2:=HTr.out.2 _ h1;have h3:=QB.out _ (VG bs k hlt _ (by rw[Hn.out];exact h2));omega
    have NE:=λ(z:Int) (W:ze) (gl Zn gr cr g' cap':Nat) (hz:z=((bd.nodes.length-1:Nat):Int)) (h0:zi w.heap.size w W) (h1:vq W bd.nodes (.slice dC bd.nodes.length jd) gl gr) (h2:W.ownsRow w.heap.size 71 2 (zd (za ⟨g',0,zc⟩) (n+1) cap') (n+1) (pv (gM ((a':Int),(e':Int)) n)))=>by
     have:=rP W dC jd gl Zn gr cr t w.heap.size a' e' g' cap' (n+1) (gM ((a':Int),(e':Int)) n) l h1 h2 (C8 _ _) h0.size (by omega) (by omega) zvs zvD ht fC hl;rw[<-hz]at this;exact this
    have jx:∀z:Int,z=IntKind.i64.wrap ((bd.nodes.length:Int)-1)->z=((bd.nodes.length-1:Nat):Int):=λz h=>by rw[h,IntKind.wrap_i64];omega
    have YC:zj (r=dK (gM ((a':Int),(e':Int)) n) l):=hre;have bh:((bd.nodes.length:Int)-1)=((bd.nodes.length-1:Nat):Int):=by omega
    obtain⟨y0,y1,y2,-,-,-⟩:=bW OA;have u0:w2.cell? ⟨w.heap.size,0,zc⟩=za (zd (za ⟨b,o,zc⟩) bs.length cap):=(aO _ _ _ _ _ _ K7:w2.cell? ⟨w.heap.size,0,zc⟩=_);have u1:w2.cell? ⟨w.heap.size,1,zc⟩=za (zh .i64 n):=(aO _ _ _ _ _ _ K7:w2.cell? ⟨w.heap.size,1,zc⟩=_);have lb:=uV OA;have lr:=uV K7;clear hre hl fC rP rz nU wS Hr HB HN OA K7;have dr:zi w2.heap.size w2 w2.drew:=(Below.refl _ _).drew;go_wp2
    go_region_held3 (λw'=>zi w2.heap.size w2 w'/\w'.cell? ⟨wr.heap.size,0,zc⟩=za (.bool bd.aV)/\w'.cell? ⟨wr.heap.size,1,zc⟩=za (.bool bd.bm)/\w'.cell? ⟨wr.heap.size,2,zc⟩=za (.slice dC bd.nodes.length jd)/\w'.cell? ⟨w.heap.size,0,zc⟩=za (zd (za ⟨b,o,zc⟩) bs.length cap)/\w'.cell? ⟨w.heap.size,1,zc⟩=za (zh .i64 n)) ((first|exact⟨dr,y0,y1,y2,u0,u1⟩|exact Ru lb lr (by assumption) bE|exact Ru lb lr (by assumption) dz|exact Ru lb lr (by assumption) vI|go_keep)) ((first|(have h5:=pJ;have h6:=mw;go_at_call 66;refine(NE _ _ gl Rx gr cr g6 Ad (by first|rfl|exact jx _ rfl|exact bh) (by first|exact aj dL dL.size (‹zi w2.heap.size w2 _/\_›).1) (by first|exact pJ|exact pJ.below dz) (by first|exact mw|exact cI mw bE)).mono ?_;rintro x w7 ⟨g7,bS,rfl,fu,vI⟩)|(go_at_call 67;refine(mW _ bd.aV bd.bm dC jd (zyH.below (by first|exact dr|exact(‹zi w2.heap.size w2 _/\_›).1))).mono ?_;rintro x w5 ⟨bE,gl,Rx,gr,cr,rfl,pJ⟩)|(go_at_call 31;refine(zmq _ n a' e' _ Tm w.heap.size (by first|exact aU dL.size dr.size|exact aU dL.size (‹zi w2.heap.size w2 _/\_›).1.size)).mono ?_;rintro x w6 ⟨g6,Ad,rfl,mw,dz⟩)))
    all_goals
     have j9:=‹zi w2.heap.size w2 _/\_›;have bj:=aj dL dL.size j9.1;rw[<-YC.out]at fu;have Jc:zj (n+1=r.length):=by show _=_;rw[YC.out,zv,C8]
     go_wp2;exact bD (v:=zd (za ⟨g7,0,zc⟩) (n+1) bS) (by simp[results,results33,go_sem]) rfl ⟨_,rfl,by rw[<-Jc.out];exact fu,bj⟩
  ·have hN:Mx w r (.returned (zd (za ⟨wr.heap.size,0,zc⟩) 0 0)) (wr.alloc (zg #[] 71)):=wS.out wr hb (by
    rcases Hr.out with h|⟨_,j,hj,_,h,_⟩
    ·exact h.2
    ·rw[show (a':Int).toNat=a' by omega,show (e':Int).toNat=e' by omega]at h;exact absurd h (HN.out j (by omega)))
   have Qh:zj _:=hN;clear hN wS Hr fT TF TB S8;go_wp2;exact bD (v:=zd (za ⟨wr.heap.size,0,zc⟩) 0 0) (by simp[results,results33,go_sem]) rfl Qh.out
end Go.Proofs.YtdimhpfiieepiaaGreatDoor
