import Derived.Test.YthddplbodacjgaaGreatDoorC21
import Derived.Test.YthddplbodacjgaaGreatDoorC23
import Derived.Lib.ConvBytes
import Derived.RangeFuncNested
import Derived.RangeFuncBound
import Derived.RangeFuncCalls
import Derived.RangeFuncLeaves
import Derived.Shelf.Abstract
import Derived.Shelf.RegionOpen
import Derived.WalkKit
import Derived.OwnWalkIn
import Derived.TacticsInMore
import Derived.LoopNIn
import Derived.LoopIn
namespace Go.Proofs.YthddplbodacjgaaGreatDoor
set_option maxHeartbeats 2000000
set_option maxRecDepth 100000
section
open Go.RowKit
attribute [local go_sem ↓] Go.wp_at_zero Go.wp_at_succ
def addR{κ:Type} [DecidableEq κ] (ks:List κ)(k:κ):List κ:=if k∈ks then ks else ks++[k]
theorem ziy{κ:Type} [DecidableEq κ] {ks:List κ}{k:κ}(h:k∉ks):idxR ks k=ks.length:=by
 have:=zsj ks k;have:¬idxR ks k<ks.length:=fun e=>h (zcr.1 e)
 omega
def NumR{κ:Type} [DecidableEq κ] (enc:κ->Value)(w:World)(r:Nat)(ks:List κ)(k:κ)(e:Ending)(w':World):Prop:=
 e=.returned (.tuple #[.int .i64 (idxR ks k:Int),.bool (decide (k∉ks))])/\w'.heap[r]?=some (.map (regE enc (addR ks k)) (addR ks k).length)/\w.grownBy w' (some r)
theorem Tryz.zeroInt(w:World):(zeroValue 3).run Tryz.prog w=.ok (.int .i64 0) w:=by
 simp[zeroValue,typeInfo]
 kernel_rfl
theorem znt(r:Nat)(ks:List Tr)(k:Tr)(w:World)(hg:w.heap[r]?=some (.map (regE trV ks) ks.length)):
  Calls Tryz.prog 105 #[.map (some r),trV k] w (NumR trV w r ks k):=by
 obtain⟨W0,hW0⟩:∃W0,w.alloc (.cells (trC k) 192)=W0:=⟨_,rfl⟩;have hb0:Below w.heap.size w W0:=by rw[<-hW0];exact(Below.refl _ _).alloc (zuz _) _
 have hg0:=zab hg hb0;have x0:W0.heap[w.heap.size]?=some (.cells (trC k) 192 (0,0)):=by rw[<-hW0];exact zuR _ _
 have hm:=Tryz.underlying215;have hc:∀(e:Bool) (k:Tr),(Instr.checkKey e 10000 192 (trV k)).run Tryz.prog W0=.ok () W0:=fun e k=>Tryz.checkTr e k W0
 have hf:∀(ks:List Tr) (k:Tr),(Instr.findKey 192 (trV k) (regL trV ks)).run Tryz.prog W0=.ok (zeJ ks k) W0:=fun ks k=>zqx trV W0 Tryz.underlying192 (fun _ _=>rfl) (fun a b=>Tryz.eqTr a b W0) ks k
 have hl:=zmu trV W0 hm hc hf (Tryz.zeroInt W0) r ks k hg0;have hr:=zae hg;have hg2:W0.heap.size=w.heap.size+1:=by rw[<-hW0];simp
 have hgr0:w.grownBy W0 (some r):=by rw[<-hW0];exact World.grownBy_alloc _ _ _
 have hc0:∀j u,(trC k)[j]?=some u->W0.cell? ⟨w.heap.size,j,none⟩=some u:=fun j u h=>by rw[zuO _ _ _ _ _ _ x0];exact h
 obtain⟨q0,q1,q2,q3,q4⟩:=zaq x0;have hn2:=zj2 trV ks
 by_cases hk:k∈ks
 ·simp only[hk,if_true,decide_true] at hl;have HN:Hid (NumR trV w r ks k (.returned (.tuple #[.int .i64 (idxR ks k:Int),.bool false])) W0):=⟨by simp[hk],by unfold addR;rw[zuV hk];exact hg0,hgr0⟩;have hil:=zcr.2 hk;unfold trV trC at hl;unfold trC at hW0;unfold trV trC;generalize idxR ks k=ix at *;clear hc hf hm x0 hg0 hgr0 hc0 hn2 hg2
  go_enter Tryz.func105,Tryz.ntmps105
  go_wp2;refine zuN (v:=.tuple #[.int .i64 (ix:Int),.bool false]) (by simp[results,Tryz.results105,go_sem]) rfl HN.out
 ·simp only[hk,if_false,decide_false] at hl;have hp:=zph trV W0 hm hc hf r ks k hk hg0;obtain⟨W1,hW1⟩:∃W1,{W0 with heap:=W0.heap.setIfInBounds r (.map (regE trV (ks++[k])) (ks++[k]).length)}=W1:=⟨_,rfl⟩;have hs1:W1.heap=W0.heap.setIfInBounds r (.map (regE trV (ks++[k])) (ks++[k]).length):=by rw[<-hW1]
  have HN:Hid (NumR trV w r ks k (.returned (.tuple #[.int .i64 (ks.length:Int),.bool true])) W1):=by
   refine⟨by rw[ziy hk];simp[hk],?_,?_⟩
   ·unfold addR;rw[zuU hk,hs1];exact(MapKept.heap_set hg0).1
   ·refine⟨by rw[<-hW1];exact hgr0.os,by rw[<-hW1];exact hgr0.tape,by rw[<-hW1];exact hgr0.output,by rw[hs1];simp;omega,fun b hb hne=>?_⟩;rw[hs1,(MapKept.heap_set hg0).2 b (fun e=>hne (by rw[e]))];exact hgr0.block b hb hne
  rw[hW1] at hp;unfold trV trC at hl hp;unfold trC at hW0;unfold trV trC;have hlen:∀ty,(Builtin.len_ #[215] ty #[.map (some r)]).run Tryz.prog W0=.ok (.int .i64 (ks.length:Int)) W0:=fun ty=>by
   simp[Builtin.len_,run_underlying hm,MapKept.run_getObj_map hg0,goInt,Result.andThen,hn2]
  clear hc hf hm x0 hgr0 hc0 hn2 hg2 hW1 hs1
  go_enter Tryz.func105,Tryz.ntmps105
  go_wp2;refine zuN (v:=.tuple #[.int .i64 (ks.length:Int),.bool true]) (by simp[results,Tryz.results105,go_sem]) rfl HN.out
end
section
open Go.RowKit
attribute [local go_sem ↓] Go.wp_at_zero Go.wp_at_succ
theorem zrH(k:ByteArray):∀(ks:List ByteArray) (i:Nat),Instr.findNow .string (.string k) ((ks.zipIdx i).map fun x=>{key:=.string x.1,val:=.int .i64 (x.2:Int),born:=x.2}) i=some (if idxR ks k<ks.length then some (i+idxR ks k,.int .i64 ((i+idxR ks k:Nat):Int)) else none)
 |[],i=>by simp[Instr.findNow,idxR]
 |x::ks,i=>by
  rw[List.zipIdx_cons,zub];unfold Instr.findNow
  by_cases e:k=x
  ·subst e;have h0:idxR (k::ks) k=0:=by simp[idxR,List.findIdx_cons]
   have hb:(k==k)=true:=(MapKept.bytes_beq _ _).2 rfl;rw[h0];simp[Instr.sameNow,hb]
  ·have h1:idxR (x::ks) k=idxR ks k+1:=by simp[idxR,List.findIdx_cons,e]
   have hb:(k==x)=false:=by
    cases h:(k==x)
    ·rfl
    ·exact absurd ((MapKept.bytes_beq _ _).1 h) e
   have ih:=zrH k ks (i+1);rw[h1];simp only[Instr.sameNow,hb];rw[ih];simp only[zt2,Nat.add_lt_add_iff_right];rw[show i+1+idxR ks k=i+(idxR ks k+1) by omega]
theorem zoo{P:Program}{kt:TypeId}(w:World)(hu:P.underlying kt=some .string)(ks:List ByteArray)(k:ByteArray):(Instr.findKey kt (.string k) (regL Value.string ks)).run P w=.ok (zeJ ks k) w:=by
 refine MapKept.run_findKey hu ?_;have:=zrH k ks 0;simp only[zuK] at this;exact this
theorem zfC(r:Nat)(ks:List ByteArray)(k:ByteArray)(w:World)(hg:w.heap[r]?=some (.map (regE Value.string ks) ks.length)):
  Calls Tryz.prog 59 #[.map (some r),.string k] w (NumR Value.string w r ks k):=by
 have hm:=Tryz.underlying123;have hc:∀(e:Bool) (k:ByteArray),(Instr.checkKey e 10000 9 (.string k)).run Tryz.prog w=.ok () w:=fun e k=>MapKept.run_checkKey Tryz.underlying9 (by simp[MapKept.IsKey]) e 9999
 have hf:∀(ks:List ByteArray) (k:ByteArray),(Instr.findKey 9 (.string k) (regL Value.string ks)).run Tryz.prog w=.ok (zeJ ks k) w:=fun ks k=>zoo w Tryz.underlying9 ks k
 have hl:=zmu Value.string w hm hc hf (Tryz.zeroInt w) r ks k hg;have hr:=zae hg;have hn2:=zj2 Value.string ks
 by_cases hk:k∈ks
 ·simp only[hk,if_true,decide_true] at hl;have HN:Hid (NumR Value.string w r ks k (.returned (.tuple #[.int .i64 (idxR ks k:Int),.bool false])) w):=⟨by simp[hk],by unfold addR;rw[zuV hk];exact hg,World.grownBy.refl _ _⟩;have hil:=zcr.2 hk;generalize idxR ks k=ix at *;clear hc hf hm hn2
  go_enter Tryz.func59,Tryz.ntmps59
  go_wp2;refine zuN (v:=.tuple #[.int .i64 (ix:Int),.bool false]) (by simp[results,Tryz.results59,go_sem]) rfl HN.out
 ·simp only[hk,if_false,decide_false] at hl;have hp:=zph Value.string w hm hc hf r ks k hk hg;obtain⟨W1,hW1⟩:∃W1,{w with heap:=w.heap.setIfInBounds r (.map (regE Value.string (ks++[k])) (ks++[k]).length)}=W1:=⟨_,rfl⟩;have hs1:W1.heap=w.heap.setIfInBounds r (.map (regE Value.string (ks++[k])) (ks++[k]).length):=by rw[<-hW1]
  have HN:Hid (NumR Value.string w r ks k (.returned (.tuple #[.int .i64 (ks.length:Int),.bool true])) W1):=by
   refine⟨by rw[ziy hk];simp[hk],?_,?_⟩
   ·unfold addR;rw[zuU hk,hs1];exact(MapKept.heap_set hg).1
   ·refine⟨by rw[<-hW1],by rw[<-hW1],by rw[<-hW1],by rw[hs1];simp,fun b _ hne=>?_⟩;rw[hs1,(MapKept.heap_set hg).2 b (fun e=>hne (by rw[e]))]
  rw[hW1] at hp;have hlen:∀ty,(Builtin.len_ #[123] ty #[.map (some r)]).run Tryz.prog w=.ok (.int .i64 (ks.length:Int)) w:=fun ty=>by
   simp[Builtin.len_,run_underlying hm,MapKept.run_getObj_map hg,goInt,Result.andThen,hn2]
  clear hc hf hm hn2 hW1 hs1
  go_enter Tryz.func59,Tryz.ntmps59
  go_wp2;refine zuN (v:=.tuple #[.int .i64 (ks.length:Int),.bool true]) (by simp[results,Tryz.results59,go_sem]) rfl HN.out
end
section
variable {bs:List BrG}{b x:BrG}{k K n n' c nw:Nat}{φ F R:Nat -> Nat -> Nat}{ψ A T U:Nat -> Nat}{f:Nat -> Nat -> Bool}{P:Int -> Prop}{t:Int}{fst we:Bool}{fd:Nat -> Int}{S:St}
structure Nam(bs:List BrG)(n:Nat)(f:Nat->Nat->Bool)(F:Nat->Nat->Nat)(φ:Nat->Nat->Nat):Prop where
 inj:∀(k:Nat) (b:BrG) (i k':Nat) (b':BrG) (i':Nat),bs[k]?=some b->i<b.ga.n->bs[k']?=some b'->i'<b'.ga.n->φ k i=φ k' i'->k=k'/\i=i'
 sur:∀p,p<n↔∃(k:Nat) (b:BrG) (i:Nat),bs[k]?=some b/\i<b.ga.n/\p=φ k i
 tk:∀(k:Nat) (b:BrG) (i c:Nat),bs[k]?=some b->i<b.ga.n->c<256->f (φ k i) c=b.ga.st i c
 fol:∀(k:Nat) (b:BrG) (i q:Nat),bs[k]?=some b->i<b.ga.n->(zaA (F (φ k i)) q=true↔∃j,b.ga.fol i j=true/\q=φ k j)
theorem zss(f:Nat->Nat->Bool)(F:Nat->Nat->Nat)(φ:Nat->Nat->Nat):Nam [] 0 f F φ:=
 ⟨fun k b i k' b' i' h=>by simp at h,fun p=>⟨fun h=>absurd h (zuI _),fun⟨k,b,i,h,_⟩=>by simp at h⟩,fun k b i c h=>by simp at h,fun k b i q h=>by simp at h⟩
def extφ(K:Nat)(φ:Nat->Nat->Nat)(ψ:Nat->Nat)(k i:Nat):Nat:=if k=K then ψ i else φ k i
theorem zc3(h:(bs++[b])[k]?=some x):(k<bs.length/\bs[k]?=some x)\/(k=bs.length/\x=b):=by
 rcases zuD k bs.length with h1|h1|h1
 ·left;rw[ztQ h1] at h;exact⟨h1,h⟩
 ·right;rw[h1] at h;simp at h;exact⟨h1,h.symm⟩
 ·rw[ztU (by simp;omega)] at h;cases h
theorem zdY(h:bs[k]?=some x):(bs++[b])[k]?=some x:=by
 have:=(ztV.1 h).1;rw[ztQ this];exact h
theorem zeO(bs:List BrG)(b:BrG):(bs++[b])[bs.length]?=some b:=by simp
theorem zdp(h:k<K)(i:Nat):extφ K φ ψ k i=φ k i:=zuU (by omega)
theorem zdF(i:Nat):extφ K φ ψ K i=ψ i:=zuV rfl
theorem ze4(h:bs[k]?=some b):k<bs.length:=(ztV.1 h).1
theorem Nam.snoc{f':Nat->Nat->Bool}{F':Nat->Nat->Nat}{e:Prop}{fs ls:Nat->Prop}(h:Nam bs n f F φ)(hn:n<=n')(hf:∀p,p<n->f' p=f p)(hF:∀p,p<n->F' p=F p)
  (g:zja (fun p (c:UInt8)=>f' p c.toNat=true) (fun p q=>zaA (F' p) q=true) (fun p=>n<=p/\p<n') e fs ls b.ga ψ):Nam (bs++[b]) n' f' F' (extφ bs.length φ ψ):=by
 have lo:∀k x i,bs[k]?=some x->i<x.ga.n->φ k i<n:=fun k x i h1 h2=>(h.sur _).2 ⟨k,x,i,h1,h2,rfl⟩
 have hi:∀i,i<b.ga.n->n<=ψ i/\ψ i<n':=fun i h1=>(g.dm _).2 ⟨i,h1,rfl⟩
 refine⟨fun k x i k' x' i' h1 h2 h3 h4 e=>?_,fun p=>⟨fun hp=>?_,?_⟩,fun k x i c h1 h2 hc=>?_,fun k x i q h1 h2=>?_⟩
 ·rcases zc3 h1 with ⟨a,a2⟩|⟨rfl,rfl⟩<;>rcases zc3 h3 with ⟨c,c2⟩|⟨rfl,rfl⟩
  ·rw[zdp a,zdp c] at e;exact h.inj k x i k' x' i' a2 h2 c2 h4 e
  ·rw[zdp a,zdF] at e;have:=lo k x i a2 h2;have:=hi i' h4;omega
  ·rw[zdF,zdp c] at e;have:=lo k' x' i' c2 h4;have:=hi i h2;omega
  ·rw[zdF,zdF] at e;exact⟨rfl,g.inj i i' h2 h4 e⟩
 ·by_cases hpn:p<n
  ·obtain⟨k,x,i,h1,h2,h3⟩:=(h.sur p).1 hpn;exact⟨k,x,i,zdY h1,h2,by rw[zdp (ze4 h1)];exact h3⟩
  ·obtain⟨i,h1,h2⟩:=(g.dm p).1 ⟨by omega,hp⟩;exact⟨bs.length,b,i,zeO bs b,h1,by rw[zdF];exact h2⟩
 ·rintro ⟨k,x,i,h1,h2,rfl⟩;rcases zc3 h1 with ⟨a,a2⟩|⟨rfl,rfl⟩
  ·rw[zdp a];have:=lo k x i a2 h2;omega
  ·rw[zdF];exact(hi i h2).2
 ·rcases zc3 h1 with ⟨a,a2⟩|⟨rfl,rfl⟩
  ·rw[zdp a,hf _ (lo k x i a2 h2)];exact h.tk k x i c a2 h2 hc
  ·rw[zdF];have:=g.tk i (UInt8.ofNat c) h2;rw[UInt8.toNat_ofNat',zuF (by omega)] at this;rw[ztu];exact this
 ·rcases zc3 h1 with ⟨a,a2⟩|⟨rfl,rfl⟩
  ·rw[zdp a,hF _ (lo k x i a2 h2),h.fol k x i q a2 h2];simp only[zdp a]
  ·rw[zdF,g.fl (ψ i) q (hi i h2)];constructor
   ·rintro ⟨i',j,h3,h4,h5⟩;have:=g.inj i i' h2 (x.ga.folB i' j h3).1 h4;subst this;exact⟨j,h3,by rw[zdF];exact h5⟩
   ·rintro ⟨j,h3,h5⟩;rw[zdF] at h5;exact⟨i,j,h3,rfl,h5⟩
structure zbF(P:Int->Prop)(t:Int):Prop where
 wit:t=100\/P t
 low:∀r,P r->t<=r
 top:t<=100
theorem zbF.congr{Q:Int->Prop}(h:zbF P t)(e:∀r,P r↔Q r):zbF Q t:=⟨h.wit.imp id (e t).1,fun r hr=>h.low r ((e r).2 hr),h.top⟩
theorem zbF.min{x:Int}(h:zbF P t)(hx:x<=100):zbF (fun r=>P r\/(r=x/\x<100)) (min t x):=by
 have h1:=h.top;refine⟨?_,?_,by omega⟩
 ·rcases Int.le_total t x with e|e
  ·rw[Int.min_eq_left e];exact h.wit.imp id .inl
  ·rw[Int.min_eq_right e]
   by_cases hh:x=100
   ·exact .inl hh
   ·exact .inr (.inr ⟨rfl,by omega⟩)
 ·rintro r (hr|⟨rfl,_⟩)
  ·have:=h.low r hr;omega
  ·omega
theorem zk1(h:∀r,¬P r):zbF P 100:=⟨.inl rfl,fun r hr=>(h r hr).elim,Int.le_refl _⟩
def OpnB(bs:List BrG)(φ:Nat->Nat->Nat)(fst:Bool)(A:Nat->Nat):Prop:=∀q,zaA A q=true↔∃(k:Nat) (b:BrG) (j:Nat),bs[k]?=some b/\(fst || !b.bol)=true/\b.ga.fst j=true/\q=φ k j
def EmpR(bs:List BrG)(fst we:Bool)(r:Int):Prop:=∃(k:Nat) (b:BrG),bs[k]?=some b/\(b.eol && !we)=false/\(fst || !b.bol)=true/\b.ga.emp=true/\r=(b.rule:Int)
def fdG(b:BrG)(we:Bool)(i:Nat):Int:=if b.ga.lst i=true then (if (b.eol && !we)=true then 100 else (b.rule:Int)) else 100
def FndG(bs:List BrG)(φ:Nat->Nat->Nat)(we:Bool)(fd:Nat->Int):Prop:=∀k b i,bs[k]?=some b->i<b.ga.n->fd (φ k i)=fdG b we i
theorem zml(φ:Nat->Nat->Nat)(fst:Bool):OpnB [] φ fst zbm:=fun q=>by rw[zcT];simp
theorem zgf(fst we:Bool):zbF (EmpR [] fst we) 100:=zk1 fun r ⟨k,b,h,_⟩=>by simp at h
theorem zl6(φ:Nat->Nat->Nat)(we:Bool)(fd:Nat->Int):FndG [] φ we fd:=fun k b i h=>by simp at h
theorem OpnB.take{A':Nat->Nat}(h:OpnB bs φ fst A)(hb:(fst || !b.bol)=true)(g:∀q,zaA A' q=true↔∃j,b.ga.fst j=true/\q=ψ j):OpnB (bs++[b]) (extφ bs.length φ ψ) fst (orT A A'):=fun q=>by
 rw[zg3,ztw,h q,g q];constructor
 ·rintro (⟨k,x,j,h1,h2,h3,h4⟩|⟨j,h3,h4⟩)
  ·exact⟨k,x,j,zdY h1,h2,h3,by rw[zdp (ze4 h1)];exact h4⟩
  ·exact⟨bs.length,b,j,zeO bs b,hb,h3,by rw[zdF];exact h4⟩
 ·rintro ⟨k,x,j,h1,h2,h3,h4⟩;rcases zc3 h1 with ⟨a,a2⟩|⟨rfl,rfl⟩
  ·rw[zdp a] at h4;exact .inl ⟨k,x,j,a2,h2,h3,h4⟩
  ·rw[zdF] at h4;exact .inr ⟨j,h3,h4⟩
theorem OpnB.skip(h:OpnB bs φ fst A)(hb:(fst || !b.bol)=false):OpnB (bs++[b]) (extφ bs.length φ ψ) fst A:=fun q=>by
 rw[h q];constructor
 ·rintro ⟨k,x,j,h1,h2,h3,h4⟩;exact⟨k,x,j,zdY h1,h2,h3,by rw[zdp (ze4 h1)];exact h4⟩
 ·rintro ⟨k,x,j,h1,h2,h3,h4⟩;rcases zc3 h1 with ⟨a,a2⟩|⟨rfl,rfl⟩
  ·rw[zdp a] at h4;exact⟨k,x,j,a2,h2,h3,h4⟩
  ·rw[hb] at h2;cases h2
theorem zjm(bs:List BrG)(b:BrG)(fst we:Bool)(r:Int):EmpR (bs++[b]) fst we r↔EmpR bs fst we r\/((b.eol && !we)=false/\(fst || !b.bol)=true/\b.ga.emp=true/\r=(b.rule:Int)):=by
 constructor
 ·rintro ⟨k,x,h1,h2⟩;rcases zc3 h1 with ⟨a,a2⟩|⟨rfl,rfl⟩
  ·exact .inl ⟨k,x,a2,h2⟩
  ·exact .inr h2
 ·rintro (⟨k,x,h1,h2⟩|h2)
  ·exact⟨k,x,zdY h1,h2⟩
  ·exact⟨bs.length,b,zeO bs b,h2⟩
def fdV(b:BrG)(we:Bool):Int:=if (b.eol && !we)=true then 100 else (b.rule:Int)
theorem zon(hr:b.rule<=99):fdV b we<=100:=by unfold fdV;split<;>omega
theorem EmpL.take(h:zbF (EmpR bs fst we) t)(hb:(fst || !b.bol)=true)(he:b.ga.emp=true)(hr:b.rule<=99):zbF (EmpR (bs++[b]) fst we) (min t (fdV b we)):=by
 refine(h.min (zon hr)).congr fun r=>?_
 rw[zjm];unfold fdV;cases hq:(b.eol && !we)
 ·rw[zuU (by simp)];constructor
  ·rintro (h1|⟨h1,h2⟩)
   ·exact .inl h1
   ·exact .inr ⟨rfl,hb,he,h1⟩
  ·rintro (h1|⟨_,_,_,h1⟩)
   ·exact .inl h1
   ·exact .inr ⟨h1,by omega⟩
 ·rw[zuV rfl];simp
theorem EmpL.skip(h:zbF (EmpR bs fst we) t)(hb:((fst || !b.bol)&&b.ga.emp)=false):zbF (EmpR (bs++[b]) fst we) t:=by
 refine h.congr fun r=>?_
 rw[zjm];constructor
 ·exact .inl
 ·rintro (h1|⟨_,h2,h3,_⟩)
  ·exact h1
  ·rw[h2,h3] at hb;cases hb
theorem FndG.snoc{fd':Nat->Int}{L:Nat->Nat}(h:FndG bs φ we fd)(N:Nam bs n f F φ)(hψ:∀i,i<b.ga.n->n<=ψ i/\ψ i<n')(hinj:∀i j,i<b.ga.n->j<b.ga.n->ψ i=ψ j->i=j)(hL:∀q,zaA L q=true↔∃j,b.ga.lst j=true/\q=ψ j)
  (hz:∀p,n<=p->p<n'->fd p=100) (hd:∀p,fd' p=if zaA L p=true then fdV b we else fd p):FndG (bs++[b]) (extφ bs.length φ ψ) we fd':=fun k x i h1 h2=>by
 rcases zc3 h1 with ⟨a,a2⟩|⟨rfl,rfl⟩
 ·have hlt:=(N.sur (φ k i)).2 ⟨k,x,i,a2,h2,rfl⟩;rw[zdp a,hd,zuU,h k x i a2 h2];rw[hL];rintro ⟨j,h3,h4⟩;have:=hψ j (b.ga.lstB j h3);omega
 ·rw[zdF,hd];have hp:=hψ i h2
  by_cases hl:x.ga.lst i=true
  ·rw[zuV ((hL _).2 ⟨i,hl,rfl⟩)];unfold fdG fdV;rw[zuV hl]
  ·rw[zuU,hz _ hp.1 hp.2]
   ·unfold fdG;rw[zuU hl]
   ·rw[hL];rintro ⟨j,h3,h4⟩;have:=hinj i j h2 (x.ga.lstB j h3) h4;rw[this] at hl;exact hl h3
structure SetP(bs:List BrG)(φ:Nat->Nat->Nat)(S:St)(T:Nat->Nat):Prop where
 bit:∀p,zaA T p=true↔∃(k:Nat) (b:BrG) (i:Nat),bs[k]?=some b/\i<b.ga.n/\S k i=true/\p=φ k i
 ok:∀k i,S k i=true->∃b,bs[k]?=some b/\i<b.ga.n
theorem zpA(bs:List BrG)(φ:Nat->Nat->Nat):SetP bs φ zaZ zbm:=⟨fun p=>by rw[zcT];simp[zaZ],fun k i h=>by simp[zaZ] at h⟩
theorem SetP.lt(h:SetP bs φ S T)(N:Nam bs n f F φ){p:Nat}(hp:zaA T p=true):p<n:=by
 obtain⟨k,b,i,h1,h2,_,h3⟩:=(h.bit p).1 hp;exact(N.sur p).2 ⟨k,b,i,h1,h2,h3⟩
theorem SetP.at(h:SetP bs φ S T)(N:Nam bs n f F φ){k i:Nat}{b:BrG}(hb:bs[k]?=some b)(hi:i<b.ga.n):zaA T (φ k i)=S k i:=by
 rw[ztu,h.bit];constructor
 ·rintro ⟨k',b',i',h1,h2,h3,h4⟩;obtain⟨rfl,rfl⟩:=N.inj _ _ _ _ _ _ hb hi h1 h2 h4;exact h3
 ·intro h3;exact⟨k,b,i,hb,hi,h3,rfl⟩
theorem ztc(bs:List BrG)(fst:Bool)(S:St)(c:Nat){k j:Nat}(h:stpG bs fst S c k j=true):∃b,bs[k]?=some b/\j<b.ga.n:=by
 unfold stpG at h;cases hb:bs[k]? with
 |none=>rw[hb] at h;cases h
 |some b=>
  rw[hb] at h;simp only[ztt] at h;exact⟨b,rfl,b.ga.stB j c h.1⟩
theorem SetP.step{X:Nat->Nat}(h:SetP bs φ S T)(N:Nam bs n f F φ)(hA:OpnB bs φ fst A)(hc:c<256)(hX:∀q,zaA X q=true↔q<n/\f q c=true)
  (hU:∀q,zaA U q=true↔((∃p,zaA T p=true/\zaA (F p) q=true)\/zaA A q=true)/\zaA X q=true):SetP bs φ (stpG bs fst S c) U:=by
 refine⟨fun q=>?_,fun k i hs=>ztc bs fst S c hs⟩;rw[hU q,hX q,N.sur q];constructor
 ·rintro ⟨ho,⟨k,b,j,h1,h2,rfl⟩,h4⟩;refine⟨k,b,j,h1,h2,?_,rfl⟩;rw[N.tk k b j c h1 h2 hc] at h4;unfold stpG;rw[h1];simp only[h4,zty,ztw,List.any_eq_true,zuh,ztt];rcases ho with ⟨p,hp,hq⟩|ho
  ·right
   obtain⟨k',b',i,a1,a2,a3,rfl⟩:=(h.bit p).1 hp;obtain⟨j',e1,e2⟩:=(N.fol k' b' i _ a1 a2).1 hq;obtain⟨rfl,rfl⟩:=N.inj _ _ _ _ _ _ h1 h2 a1 (b'.ga.folB i j' e1).2 e2;rw[h1] at a1;cases a1;exact⟨i,a2,a3,e1⟩
  ·left
   obtain⟨k',b',j',a1,a2,a3,e2⟩:=(hA _).1 ho;obtain⟨rfl,rfl⟩:=N.inj _ _ _ _ _ _ h1 h2 a1 (b'.ga.fstB j' a3) e2;rw[h1] at a1;cases a1;exact⟨by simpa using a2,a3⟩
 ·rintro ⟨k,b,j,h1,h2,h3,rfl⟩;unfold stpG at h3;rw[h1] at h3;simp only[ztt,ztw,List.any_eq_true,zuh] at h3;obtain⟨h4,h5⟩:=h3;refine⟨?_,⟨k,b,j,h1,h2,rfl⟩,by rw[N.tk k b j c h1 h2 hc];exact h4⟩;rcases h5 with ⟨h6,h7⟩|⟨i,h6,h7,h8⟩
  ·exact .inr ((hA _).2 ⟨k,b,j,h1,by simpa using h6,h7,rfl⟩)
  ·exact .inl ⟨φ k i,(h.bit _).2 ⟨k,b,i,h1,h6,h7,rfl⟩,(N.fol k b i _ h1 h6).2 ⟨j,h8,rfl⟩⟩
def HitR(bs:List BrG)(fst:Bool)(S:St)(we:Bool)(r:Int):Prop:=∃(k:Nat) (b:BrG),bs[k]?=some b/\(b.eol && !we)=false/\hitG b k fst S=true/\r=(b.rule:Int)
theorem zjz(h:SetP bs φ S T)(hd:FndG bs φ we fd)(hr:∀(k:Nat) (b:BrG),bs[k]?=some b->b.rule<=99)(r:Int):
  HitR bs fst S we r↔EmpR bs fst we r\/∃p,zaA T p=true/\r=fd p/\fd p<100:=by
 constructor
 ·rintro ⟨k,b,h1,h2,h3,rfl⟩;unfold hitG at h3;simp only[ztw,List.any_eq_true,zuh,ztt] at h3;rcases h3 with ⟨i,h4,h5,h6⟩|⟨h4,h5⟩
  ·right
   have e:fd (φ k i)=(b.rule:Int):=by rw[hd k b i h1 h4];unfold fdG;rw[zuV h6,zuU (by rw[h2];simp)]
   have:=hr k b h1;exact⟨φ k i,(h.bit _).2 ⟨k,b,i,h1,h4,h5,rfl⟩,e.symm,by omega⟩
  ·exact .inl ⟨k,b,h1,h2,by simpa using h4,h5,rfl⟩
 ·rintro (⟨k,b,h1,h2,h3,h4,rfl⟩|⟨p,h1,rfl,h3⟩)
  ·refine⟨k,b,h1,h2,?_,rfl⟩;unfold hitG;rw[h3,h4];simp
  ·obtain⟨k,b,i,a1,a2,a3,rfl⟩:=(h.bit p).1 h1;rw[hd k b i a1 a2] at h3 ⊢;unfold fdG at h3 ⊢
   by_cases hl:b.ga.lst i=true
   ·rw[zuV hl] at h3 ⊢
    by_cases he:(b.eol && !we)=true
    ·rw[zuV he] at h3;omega
    ·rw[zuU he];refine⟨k,b,a1,by simpa using he,?_,rfl⟩;unfold hitG;simp only[ztw,List.any_eq_true,zuh,ztt];exact .inl ⟨i,a2,a3,hl⟩
   ·rw[zuU hl] at h3;omega
theorem zjt(h:zbF (HitR bs fst S we) t)(hr:∀(k:Nat) (b:BrG),bs[k]?=some b->b.rule<=99):(if t=100 then -1 else t)=ansG bs fst S we:=by
 refine zrW (K:=bs.length) ?_ (zn1 bs fst S we bs.length);refine⟨?_,fun k b hk h1 h2 h3=>?_⟩
 ·by_cases e:t=100
  ·rw[zuV e];exact .inl rfl
  ·rw[zuU e];rcases h.wit with h1|⟨k,b,h1,h2,h3,h4⟩
   ·exact absurd h1 e
   ·exact .inr ⟨k,b,ze4 h1,h1,h4,h2,h3⟩
 ·have h4:=h.low _ ⟨k,b,h1,h2,h3,rfl⟩;have h5:=hr k b h1;rw[zuU (by omega)];refine⟨?_,h4⟩;rcases h.wit with h6|⟨k',b',_,_,_,h6⟩
  ·omega
  ·omega
theorem zhm(hT:∀i,T i<18446744073709551616)(hU:∀i,U i<18446744073709551616):(∀i,i<nw->T i=U i)↔∀p,p<64*nw->zaA T p=zaA U p:=by
 constructor
 ·intro h p hp;unfold zaA;rw[h (p/64) (by omega)]
 ·intro h i hi;apply Nat.eq_of_testBit_eq;intro j;rcases zuC j 64 with hj|hj
  ·have:=h (i*64+j) (by omega);unfold zaA at this;rw[show (i*64+j)/64=i by omega,show (i*64+j)%64=j by omega] at this;exact this
  ·have e:(18446744073709551616:Nat)=2 ^ 64:=by decide
   have hp:2 ^ 64<=2 ^ j:=Nat.pow_le_pow_right (by omega) hj;rw[Nat.testBit_lt_two_pow (zuB (hT i) (by rw[e];exact hp)),Nat.testBit_lt_two_pow (zuB (hU i) (by rw[e];exact hp))]
theorem zsA{S':St}(h:SetP bs φ S T)(h':SetP bs φ S' U)(N:Nam bs n f F φ)(hn:n<=64*nw)(hT:∀i,T i<18446744073709551616)(hU:∀i,U i<18446744073709551616):(∀i,i<nw->T i=U i)↔S=S':=by
 rw[zhm hT hU];constructor
 ·intro hb;funext k i;have key:∀{S S':St} {T U:Nat->Nat},SetP bs φ S T->SetP bs φ S' U->(∀p,p<64*nw->zaA T p=zaA U p)->S k i=true->S' k i=true:=fun h h' hb hs=>by
   obtain⟨b,h1,h2⟩:=h.ok k i hs;rw[<-h'.at N h1 h2,<-hb _ (by have:=(N.sur (φ k i)).2 ⟨k,b,i,h1,h2,rfl⟩;omega),h.at N h1 h2];exact hs
  rw[ztu];exact⟨key h h' hb,key h' h (fun p hp=>(hb p hp).symm)⟩
 ·rintro rfl p _;rw[ztu,h.bit,h'.bit]
def wdU(x m:Nat):List UInt8:=(List.range m).map fun s=>UInt8.ofNat (x/2 ^ (8*s))
theorem zi7(x m:Nat):wdU x (m+1)=wdU x m++[UInt8.ofNat (x/2 ^ (8*m))]:=by simp[wdU,List.range_succ]
theorem zlO(x m:Nat):(wdU x m).length=m:=by simp[wdU]
theorem zpZ{x y:Nat}:∀{m:Nat},wdU x m=wdU y m->x%2 ^ (8*m)=y%2 ^ (8*m)
 |0,_=>by simp[Nat.mod_one]
 |m+1,h=>by
  rw[zi7,zi7] at h;obtain⟨h1,h2⟩:=List.append_inj h (by rw[zlO,zlO]);have ih:=zpZ h1;have h3:UInt8.ofNat (x/2 ^ (8*m))=UInt8.ofNat (y/2 ^ (8*m)):=by simpa using h2
  have h4:=congrArg UInt8.toNat h3;rw[UInt8.toNat_ofNat',UInt8.toNat_ofNat'] at h4;have e:2 ^ (8*(m+1))=2 ^ (8*m)*2 ^ 8:=by rw[<-Nat.pow_add];rfl
  rw[e,Nat.mod_mul,Nat.mod_mul,ih,h4]
def keyU(T:Nat->Nat)(k:Nat):List UInt8:=(List.range k).flatMap fun i=>wdU (T i) 8
theorem ze2(T:Nat->Nat)(k:Nat):keyU T (k+1)=keyU T k++wdU (T k) 8:=by simp[keyU,List.range_succ]
theorem zgi(T:Nat->Nat)(k:Nat):(keyU T k).length=8*k:=by
 induction k with
 |zero=>rfl
 |succ k ih=>rw[ze2,zt1,ih,zlO];omega
theorem zoH(hT:∀i,T i<18446744073709551616)(hU:∀i,U i<18446744073709551616):∀k,keyU T k=keyU U k↔∀i,i<k->T i=U i
 |0=>by simp[keyU]
 |k+1=>by
  rw[ze2,ze2];have ih:=zoH hT hU k;constructor
  ·intro e;obtain⟨e1,e2⟩:=List.append_inj e (by rw[zgi,zgi]);intro i hi
   by_cases hik:i=k
   ·subst hik;have:=zpZ e2;rw[show (2:Nat) ^ (8*8)=18446744073709551616 by decide,zuF (hT _),zuF (hU _)] at this;exact this
   ·exact ih.1 e1 i (by omega)
  ·intro e;rw[ih.2 (fun i hi=>e i (by omega)),e k (by omega)]
def keyB(nw:Nat)(T:Nat->Nat):ByteArray:=⟨(keyU T nw).toArray⟩
theorem zoG(hT:∀i,T i<18446744073709551616)(hU:∀i,U i<18446744073709551616):keyB nw T=keyB nw U↔∀i,i<nw->T i=U i:=by
 rw[<-zoH hT hU nw];unfold keyB;constructor
 ·intro e;have:=congrArg (fun b:ByteArray=>b.data.toList) e
  simpa using this
 ·intro e;rw[e]
theorem zhU(κ:Nat->ByteArray)(hκ:∀h,h<c->(κ h=κ c↔zbZ K R h c=true)):idxR ((zah K R c).map κ) (κ c)=clsF K R c:=by
 unfold idxR clsF;rw[List.findIdx_map];have key:∀(l:List Nat),(∀h∈l,h<c)->l.findIdx ((fun x=>decide (κ c=x)) ∘ κ)=l.findIdx (fun h=>zbZ K R h c):=by
  intro l
  induction l with
  |nil=>intro _;rfl
  |cons x l ih=>
   intro hl;rw[ztM,ztM,ih (fun h hh=>hl h (by simp[hh]))];have e:((fun y=>decide (κ c=y)) ∘ κ) x=zbZ K R x c:=by
    show decide (κ c=κ x)=_;rw[ztu,decide_eq_true_iff,<-hκ x (hl x (by simp))];exact⟨fun e=>e.symm,fun e=>e.symm⟩
   rw[e]
 exact key _ (zc0 K R c)
theorem zfy(κ:Nat->ByteArray)(hκ:∀h,h<c->(κ h=κ c↔zbZ K R h c=true)):κ c∈(zah K R c).map κ↔clsF K R c<(zah K R c).length:=by
 rw[<-zcr,zhU κ hκ,zt3]
theorem zm3(κ:Nat->ByteArray)(hκ:∀h,h<c->(κ h=κ c↔zbZ K R h c=true)):addR ((zah K R c).map κ) (κ c)=(zah K R (c+1)).map κ:=by
 unfold addR;rw[zba]
 by_cases h:clsF K R c<(zah K R c).length
 ·rw[zuV ((zfy κ hκ).2 h),zuV h]
 ·rw[zuU (fun k=>h ((zfy κ hκ).1 k)),zuU h];simp
theorem zrq{X:Nat->Nat->Nat}(N:Nam bs n f F φ)(hn:n<=64*nw)(hX:∀c q,zaA (X c) q=true↔q<n/\f q c=true)(hl:∀c i,X c i<18446744073709551616){h c:Nat}(hh:h<256)(hc:c<256):keyB nw (X h)=keyB nw (X c)↔zbZ (posG bs).length (posR bs) h c=true:=by
 rw[zoG (hl h) (hl c),zhm (hl h) (hl c),zim];constructor
 ·intro H k b i hb hi;have hp:φ k i<n:=(N.sur _).2 ⟨k,b,i,hb,hi,rfl⟩;have h1:=H (φ k i) (by omega);rw[ztu,hX,hX,N.tk k b i h hb hi hh,N.tk k b i c hb hi hc] at h1;rw[ztu];exact⟨fun a=>(h1.1 ⟨hp,a⟩).2,fun a=>(h1.2 ⟨hp,a⟩).2⟩
 ·intro H p _;rw[ztu,hX,hX];have key:∀{h c:Nat},h<256->c<256->AlkB bs h c->p<n/\f p h=true->p<n/\f p c=true:=fun hh hc H ⟨a,b⟩=>by
   obtain⟨k,x,i,h1,h2,rfl⟩:=(N.sur p).1 a;refine⟨a,?_⟩;rw[N.tk k x i _ h1 h2 hh] at b;rw[N.tk k x i _ h1 h2 hc,<-H k x i h1 h2];exact b
  exact⟨key hh hc H,key hc hh (fun k b i hb hi=>(H k b i hb hi).symm)⟩
end
section
open Go.RowKit
attribute [local go_sem ↓] Go.wp_at_zero Go.wp_at_succ
def andT(T U:Nat->Nat):Nat->Nat:=fun i=>T i &&& U i
def andK(T U:Nat->Nat)(k:Nat):Nat->Nat:=fun i=>if i<k then T i &&& U i else 0
theorem znZ{T U:Nat->Nat}(hT:∀i,T i<18446744073709551616):∀i,andT T U i<18446744073709551616:=fun i=>Nat.lt_of_le_of_lt Nat.and_le_left (hT i)
theorem zql(T U:Nat->Nat)(p:Nat):zaA (andT T U) p=(zaA T p&&zaA U p):=by simp[zaA,andT]
theorem zqk(n:Nat)(T U:Nat->Nat)(k:Nat):zcW n (fun j=>if j=k then T k &&& U k else andK T U k j)=zcW n (andK T U (k+1)):=zcE fun i _=>by
 unfold andK
 by_cases e:i=k
 ·subst e;rw[zuV rfl,zuV (by omega)]
 ·rw[zuU e]
  by_cases h:i<k
  ·rw[zuV h,zuV (by omega)]
  ·rw[zuU h,zuU (by omega)]
theorem zod(nw g g2 cap cap2:Nat)(T U:Nat->Nat)(w:World)(hT:zaB w nw g T)(hU:zaB w nw g2 U)(hnw:nw<=1000):
  Calls Tryz.prog 58 #[.slice (some ⟨g,0,none⟩) nw cap,.slice (some ⟨g2,0,none⟩) nw cap2] w fun e w'=>e=.returned (.slice (some ⟨w.heap.size,0,none⟩) nw nw)/\zaB w' nw w.heap.size (andT T U)/\Below w.heap.size w w':=by
 obtain⟨i0,hi,hz0,hz1,hz2⟩:=info_parts Tryz.infoU64
 go_enter Tryz.func58,Tryz.ntmps58
 go_wp2_with (refine wpList_make_full _ rfl _ _ 105 rfl w.heap.size 180 i0 _ 1 Tryz.underlying105 hi hz0 hz1 _ _ _ _ nw rfl rfl rfl rfl (by rw[hz2];omega) (by unfold maxLen;omega) (zuz _) ?_;intro w1 hown hgrow)
 have h1:w1.heap[w.heap.size]?=some (.cells (zcW nw (andK T U 0)) 180 (0,0)):=by
  rw[ze9 hown,zgR]
  rfl
 have hb1:Below w.heap.size w w1:=(Below.refl _ _).grown hgrow (zuz _) (fun k e=>by cases e);clear hown hgrow
 go_loopw [13] (fun i wr=>∃k:Nat,k<=nw/\i=.int .i64 k/\wr.heap[w.heap.size]?=some (.cells (zcW nw (andK T U k)) 180 (0,0))/\Below w.heap.size w wr)
  (fun i _=>nw-(intOf i).toNat)
 case atStart=>exact⟨0,zuL _,rfl,h1,hb1⟩
 case round=>
  clear h1 hb1;obtain⟨k,hk,rfl,hr,hb⟩:=hrel
  by_cases hlt:k<nw
  ·have c0:=(hT.below hb).cell hlt;have c1:=(hU.below hb).cell hlt;have c2:wr.cell? ⟨w.heap.size,k,none⟩=some (.int .u64 ((andK T U k k:Nat):Int)):=by rw[zuO _ _ _ _ _ _ hr,zew _ _ hlt]
   have f1:=zuQ _ _ k _ _ hr;have HN:Hid ((wr.setCell ⟨w.heap.size,k,none⟩ (.int .u64 ((T k &&& U k:Nat):Int))).heap[w.heap.size]?=some (.cells (zcW nw (andK T U (k+1))) 180 (0,0))):=by
    have:=zuT wr w.heap.size k _ _ (.int .u64 ((T k &&& U k:Nat):Int)) hr;rw[zhl,zqk] at this;exact this
   have hv:=zkA _ _ (hT.lt k) (hU.lt k);rw[<-hv] at HN;clear hv hr;have hi0:(0:Int)<=(k:Int):=by omega
   have hi1:(k:Int)<(nw:Int):=by omega
   generalize T k=a at *;generalize U k=b at *;generalize andK T U k k=z at *;go_wp2
   go_roundw
   case rel=>exact⟨k+1,by omega,by go_num,HN.out,hb.grown (zaN _ _ _ _) hb.size (fun q e=>by cases e;exact zuz _)⟩
   case measure=>simp[intOf];omega
  ·have hkk:k=nw:=by omega
   subst hkk;go_wp2;go_ret;exact⟨rfl,⟨by rw[hr,zcE (U:=andT T U) fun i hi=>by unfold andK;rw[zuV hi];rfl],znZ hT.lt⟩,hb⟩
theorem zmd(a b c d:Int)(w:World):
  Calls Tryz.prog 89 #[.agg #[.int .i64 a,.int .i64 b],.agg #[.int .i64 c,.int .i64 d]] w fun e w'=>e=.returned (.agg #[.int .i64 (min a c),.int .i64 (min b d)])/\Below w.heap.size w w':=by
 go_enter Tryz.func89,Tryz.ntmps89
 go_wp2
 all_goals
  have hbw:∀x y:Int,Below w.heap.size w (((w.alloc (.cells #[.int .i64 a,.int .i64 b] 103)).alloc (.cells #[.int .i64 c,.int .i64 d] 103)).alloc (.cells #[.int .i64 x,.int .i64 y] 103)):=fun x y=>(((Below.refl _ _).alloc (zuz _) _).alloc (by simp) _).alloc (by simp;omega) _
  first
   |rw[show min a c=c by omega,show min b d=d by omega];exact zuN (v:=.agg #[.int .i64 c,.int .i64 d]) (by simp[results,Tryz.results89,go_sem]) rfl ⟨rfl,hbw _ _⟩
   |rw[show min a c=c by omega,show min b d=b by omega];exact zuN (v:=.agg #[.int .i64 c,.int .i64 b]) (by simp[results,Tryz.results89,go_sem]) rfl ⟨rfl,hbw _ _⟩
   |rw[show min a c=a by omega,show min b d=d by omega];exact zuN (v:=.agg #[.int .i64 a,.int .i64 d]) (by simp[results,Tryz.results89,go_sem]) rfl ⟨rfl,hbw _ _⟩
   |rw[show min a c=a by omega,show min b d=b by omega];exact zuN (v:=.agg #[.int .i64 a,.int .i64 b]) (by simp[results,Tryz.results89,go_sem]) rfl ⟨rfl,hbw _ _⟩
theorem Tryz.infoByteC:(Tryz.prog.info? 5).map (fun i=>(i.zero,i.size,i.bytes))=some (some (.int .u8 0),1,1):=by kernel_rfl
def kbV(l:List UInt8):List Value:=l.map fun b=>Value.int .u8 b.toNat
theorem zqR(l:List UInt8)(b:UInt8):kbV (l++[b])=kbV l++[.int .u8 b.toNat]:=by simp[kbV]
theorem zoI(nw g cap:Nat)(T:Nat->Nat)(w:World)(hT:zaB w nw g T)(hnw:nw<=1000):
  Calls Tryz.prog 60 #[.slice (some ⟨g,0,none⟩) nw cap] w fun e w'=>e=.returned (.string (keyB nw T))/\Below w.heap.size w w':=by
 obtain⟨iB,hjB,hyB0,hyB1,hyB2⟩:=info_parts Tryz.infoByteC;have hi8:(nw:Int)<=1000:=by omega
 go_enter Tryz.func60,Tryz.ntmps60
 go_wp2_with (refine wpList_make_own _ rfl _ _ 131 rfl w.heap.size 5 iB _ 1 Tryz.underlying131 hjB hyB0 hyB1 _ _ _ (8*nw) rfl rfl (by omega) (by rw[hyB2];omega) (by unfold maxLen;omega) (zuz _) ?_;intro w1 hown1 hgrow1)
 have hb1:Below w.heap.size w w1:=(Below.refl _ _).grown hgrow1 (zuz _) (by intro k h;cases h);clear hgrow1
 go_loopw [3,13] (fun s i wr=>∃(k g9 c9 nl:Nat),k<=nw/\i=.int .i64 k/\s=.slice (some ⟨g9,0,none⟩) nl c9/\Hid (nl=8*k)/\Below w.heap.size w wr/\wr.ownsRow w.heap.size 5 1 (.slice (some ⟨g9,0,none⟩) nl c9) nl (kbV (keyU T k)))
  (fun _ i _=>nw-(intOf i).toNat)
 case atStart=>exact⟨0,_,_,0,zuL _,rfl,rfl,rfl,hb1,hown1⟩
 case round=>
  clear hb1 hown1;obtain⟨k,g9,c9,nl,hk,rfl,rfl,Hnl,hb,hown⟩:=hrel
  by_cases hlt:k<nw
  ·have c0:=(hT.below hb).cell hlt;have hx:=hT.lt k;have Hks:Hid (keyU T (k+1)=keyU T k++wdU (T k) 8):=ze2 T k;have hi0:(0:Int)<=(k:Int):=by omega
   have hi1:(k:Int)<(nw:Int):=by omega
   generalize T k=a at *;go_wp2;clear c0
   go_loopw [3,6] (fun s sh wr=>∃(m g9 c9 nl:Nat),m<=8/\sh=.int .i64 ((8*m:Nat):Int)/\s=.slice (some ⟨g9,0,none⟩) nl c9/\Hid (nl=8*k+m)/\Below w.heap.size w wr/\wr.ownsRow w.heap.size 5 1 (.slice (some ⟨g9,0,none⟩) nl c9) nl (kbV (keyU T k++wdU a m)))
    (fun _ sh _=>64-(intOf sh).toNat)
   case atStart=>exact⟨0,_,_,nl,by omega,rfl,rfl,by have:=Hnl.out;show _=_;omega,hb,by simpa [wdU] using hown⟩
   case round=>
    clear hb hown;obtain⟨m,g8,c8,nl2,hm,rfl,rfl,Hn2,hb,hown⟩:=hrel
    by_cases hm8:m<8
    ·have hi2:((8*m:Nat):Int)<64:=by omega
     have hnl:nl2<=8000:=by have:=Hn2.out;omega
     obtain⟨s8,Hs8⟩:∃s8,Hid (8*m=s8):=⟨_,rfl⟩;rw[Hs8.out] at hi2 ⊢;have HV:Hid ((a:Int)/2 ^ s8%256=((UInt8.ofNat (a/2 ^ (8*m))).toNat:Int)):=by
      show _=_;rw[UInt8.toNat_ofNat',Hs8.out,Int.natCast_emod,Int.natCast_ediv,Int.natCast_pow]
      rfl
     go_wp2_with (at_builtin;refine zaC wr rfl (.tmp 21) (.tmp 26) 131 rfl w.heap.size 5 iB _ 1 Tryz.underlying131 hjB hyB0 hyB1 hyB2 rfl g8 c8 nl2 (kbV (keyU T k++wdU a m)) (.int .u8 ((a:Int)/2 ^ s8%256)) rfl hown rfl rfl (by omega) (by omega) hb.size ?_;intro g' cap' w5 hown5 hgrow5 hat)
     go_roundw
     case rel=>
      refine⟨m+1,g',cap',nl2+1,by omega,?_,rfl,by have:=Hn2.out;show _=_;omega,hb.grown hgrow5 hb.size (by intro q hq;cases hq;exact(zaV hown).1),?_⟩
      ·rw[show ((8*(m+1):Nat):Int)=(s8:Int)+8 by have:=Hs8.out;omega]
      ·rw[HV.out] at hown5;rw[zi7,<-ztD,zqR];exact hown5
     case measure=>simp[intOf];omega
    ·have hmm:m=8:=by omega
     subst hmm;go_wp2
     go_roundw
     case rel=>exact⟨k+1,g8,c8,nl2,by omega,by go_num,rfl,by have:=Hn2.out;show _=_;omega,hb,by rw[Hks.out];exact hown⟩
     case measure=>simp[intOf];omega
  ·have hkk:k=nw:=by omega
   subst hkk;have hcv:=run_convert_bytes_back (P:=Tryz.prog) wr 131 9 5 ⟨g9,0,none⟩ c9 (keyU T k) Tryz.underlying131 Tryz.underlying5 Tryz.underlying9 (fun j hj=>by
    have e:(⟨g9,0,none⟩:Addr).add j=⟨g9,j,none⟩:=by unfold Addr.add;split<;>simp_all
    rw[e,hown.cellAt j (by have:=Hnl.out;rw[zgi] at hj;omega)];simp[kbV,hj])
   rw[zgi,<-Hnl.out] at hcv;have hck:keyB k T=⟨(keyU T k).toArray⟩:=rfl;rw[<-hck] at hcv;clear hck;go_wp2;go_ret;exact⟨rfl,hb⟩
end
section
open Go.RowKit
attribute [local go_sem ↓] Go.wp_at_zero Go.wp_at_succ
def OpnA(w:World)(b o nw gF:Nat)(em:Bool)(T A:Nat->Nat)(t e ft fe:Int)(r:Ending)(W:World):Prop:=
 r=.returned (.tuple #[])/\∃W1,zaM (fun k=>k=gF) w W1/\zaB W1 nw gF (orT T A)/\(em=false->W=W1)/\(em=true->W=(W1.setCell ⟨b,o+1,none⟩ (.int .i64 (min t ft))).setCell ⟨b,o+1+1,none⟩ (.int .i64 (min e fe)))
theorem zds(b o nw gF ga gl:Nat)(em:Bool)(C:Array Value)(T A:Nat->Nat)(t e ft fe:Int)(w:World)(hC:w.heap[b]?=some (.cells C 111 (0,0)))(k0:C[o]?=some (.slice (some ⟨gF,0,none⟩) nw nw))(k1:C[o+1]?=some (.int .i64 t))(k2:C[o+1+1]?=some (.int .i64 e))(hT:zaB w nw gF T)(hA:zaB w nw ga A)(hne:gF≠ga)(hnw:nw<=1000):
  Calls Tryz.prog 81 #[.pointer (some ⟨b,o,none⟩),.agg #[.bool em,.slice (some ⟨ga,0,none⟩) nw nw,.slice (some ⟨gl,0,none⟩) nw nw],.agg #[.int .i64 ft,.int .i64 fe]] w (OpnA w b o nw gF em T A t e ft fe):=by
 obtain⟨W0,hW0⟩:∃W0,(w.alloc (.cells #[.bool em,.slice (some ⟨ga,0,none⟩) nw nw,.slice (some ⟨gl,0,none⟩) nw nw] 115)).alloc (.cells #[.int .i64 ft,.int .i64 fe] 103)=W0:=⟨_,rfl⟩;have hb0:Below w.heap.size w W0:=by rw[<-hW0];exact((Below.refl _ _).alloc (zuz _) _).alloc (by simp) _
 have x4:W0.heap[w.heap.size]?=some (.cells #[.bool em,.slice (some ⟨ga,0,none⟩) nw nw,.slice (some ⟨gl,0,none⟩) nw nw] 115 (0,0)):=by rw[<-hW0];exact zao (zuR _ _)
 have x5:W0.heap[w.heap.size+1]?=some (.cells #[.int .i64 ft,.int .i64 fe] 103 (0,0)):=by
  rw[<-hW0];have:=zuR (w.alloc (.cells #[.bool em,.slice (some ⟨ga,0,none⟩) nw nw,.slice (some ⟨gl,0,none⟩) nw nw] 115)) (.cells #[.int .i64 ft,.int .i64 fe] 103)
  simpa using this
 have hC0:=(hb0.block b (zae hC)).trans hC;have hbF:=hT.glt;have hbl:=zae hC;have z0:W0.cell? ⟨b,o,none⟩=some (.slice (some ⟨gF,0,none⟩) nw nw):=by rw[zuO _ _ _ _ _ _ hC0];exact k0
 obtain⟨a0,a1,a2,-,-,-⟩:=zac x4;have hj:=zdx nw gF ga nw nw T A W0.drew (hT.below ⟨hb0.os,hb0.tape,hb0.output,hb0.size,hb0.block⟩) (hA.below ⟨hb0.os,hb0.tape,hb0.output,hb0.size,hb0.block⟩) hne hnw;have hbF2:b≠gF:=fun e=>by subst e;have:=hT.row;rw[hC] at this;exact absurd (zak this) (by decide)
 have HB0:=hb0
 go_enter Tryz.func81,Tryz.ntmps81
 go_wp2_with fail
 go_region_held3 (fun w'=>w'.cell? ⟨b,o,none⟩=some (.slice (some ⟨gF,0,none⟩) nw nw)/\w'.cell? ⟨w.heap.size,1,none⟩=some (.slice (some ⟨ga,0,none⟩) nw nw)) ((first|exact⟨z0,a1⟩|exact⟨z1,b1⟩|go_keep)) ((go_at_call 57;refine hj.mono ?_;rintro r w1 ⟨rfl,hp1,hg1⟩;have hC1:=(hg1.block b (by have:=hb0.size;show b<W0.heap.size;omega) (by simpa using hbF2)).trans hC0;have x41:=(hg1.block w.heap.size (zae x4) (by simp;omega)).trans x4;have x51:=(hg1.block (w.heap.size+1) (zae x5) (by simp;omega)).trans x5;have z1:w1.cell? ⟨b,o,none⟩=some (.slice (some ⟨gF,0,none⟩) nw nw):=(by rw[zuO _ _ _ _ _ _ hC1];exact k0);obtain⟨b0,b1,b2,-,-,-⟩:=zac x41))
 have T1:zaM (fun k=>k=gF) w w1:=(zaM.of_below (S:=fun k=>k=gF) hb0).grown (A:=W0) (o:=some gF) ⟨hg1.os,hg1.tape,hg1.output,hg1.size,hg1.block⟩ (fun g e=>by cases e;exact .inl rfl);have HT1:Hid _:=T1;have HP1:Hid _:=hp1;clear T1 hp1 hg1 hj hW0 hb0 HB0 a0 a1 a2 z0 x4 x5 hC0 hC;cases em
 ·go_wp2
  go_end0
  exact⟨rfl,w1,HT1.out,HP1.out,fun _=>rfl,fun h=>by cases h⟩
 ·have y1:w1.cell? ⟨b,o+1,none⟩=some (.int .i64 t):=by rw[zuO _ _ _ _ _ _ hC1];exact k1
  have y2:w1.cell? ⟨b,o+1+1,none⟩=some (.int .i64 e):=by rw[zuO _ _ _ _ _ _ hC1];exact k2
  have f1:=zuQ _ _ (o+1) _ _ hC1;have f2:=zuQ _ _ (o+1+1) _ _ hC1;have c0:w1.cell? ⟨w.heap.size+1,0,none⟩=some (.int .i64 ft):=(zuO _ _ _ _ _ _ x51:w1.cell? ⟨w.heap.size+1,0,none⟩=_);have c1:w1.cell? ⟨w.heap.size+1,1,none⟩=some (.int .i64 fe):=(zuO _ _ _ _ _ _ x51:w1.cell? ⟨w.heap.size+1,1,none⟩=_);have hle:=zmd t e ft fe w1.drew;have hbl1:=zae hC1;go_wp2
  go_region_with ((go_at_call 89;refine hle.mono ?_;rintro r w2 ⟨rfl,hb2⟩;have hC2:w2.heap[b]?=some (.cells C 111 (0,0)):=(hb2.block b hbl1).trans hC1;have y3:w2.cell? ⟨b,o+1,none⟩=some (.int .i64 t):=(by rw[zuO _ _ _ _ _ _ hC2];exact k1);have y4:w2.cell? ⟨b,o+1+1,none⟩=some (.int .i64 e):=(by rw[zuO _ _ _ _ _ _ hC2];exact k2);have f3:=zuQ _ _ (o+1) _ _ hC2;have f4:=zuQ _ _ (o+1+1) _ _ hC2))
  all_goals
   go_wp2
   go_end0
   have hb2':Below w1.heap.size w1 w2:=⟨hb2.os,hb2.tape,hb2.output,hb2.size,hb2.block⟩;refine⟨rfl,w2,HT1.out.trans (zaM.of_below hb2'),HP1.out.below hb2',(fun h=>by cases h),fun _=>rfl⟩
end
open Go.RowKit
end Go.Proofs.YthddplbodacjgaaGreatDoor
