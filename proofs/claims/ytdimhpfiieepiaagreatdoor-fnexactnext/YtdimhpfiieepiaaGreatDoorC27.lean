import Derived.Test.YtdimhpfiieepiaaGreatDoorC26
namespace Go.Proofs.YtdimhpfiieepiaaGreatDoor
open Value renaming int->za
section
variable {P:Program}{es:List (Int×Int)}{k:Int}
open Go.RowKit
attribute [local go_sem ↓] wp_at_zero wp_at_succ
def G5(es:List (Int×Int)):List MapEntry:=es.zipIdx.map λx=>{key:=za .i64 x.1.1,val:=za .i64 x.1.2,born:=x.2}
def qE(es:List (Int×Int)):Array MapEntry:=(G5 es).toArray
def ep(es:List (Int×Int)):List Int:=es.map Prod.fst
def qF(es:List (Int×Int))(k:Int):Int:=(es.map Prod.snd).getD (dJ (ep es) k) 0
theorem zrn(es:List (Int×Int))(k v:Int):(qE es).push {key:=za .i64 k,val:=za .i64 v,born:=es.length}=qE (es++[(k,v)]):=by
 simp[qE,G5,List.zipIdx_append]
theorem zsf(k:Int):∀(es:List (Int×Int)) (i:Nat),Instr.findNow (.int .i64) (za .i64 k) ((es.zipIdx i).map λx=>{key:=za .i64 x.1.1,val:=za .i64 x.1.2,born:=x.2}) i=some (if dJ (ep es) k<es.length then some (i+dJ (ep es) k,za .i64 (qF es k)) else none)
 |[],i=>by simp[Instr.findNow,dJ,ep]
 |x::es,i=>by
  rw[List.zipIdx_cons,vm];unfold Instr.findNow
  by_cases e:k=x.1
  ·have h0:dJ (ep (x::es)) k=0:=by simp[dJ,ep,List.findIdx_cons,e]
   have h1:qF (x::es) k=x.2:=by unfold qF;rw[h0];rfl
   rw[h0,h1];simp[Instr.sameNow,e]
  ·have h0:dJ (ep (x::es)) k=dJ (ep es) k+1:=by simp[dJ,ep,List.findIdx_cons,e]
   have h1:qF (x::es) k=qF es k:=by unfold qF;rw[h0];rfl
   have ih:=zsf k es (i+1);rw[h0,h1];have hb:(k==x.1)=false:=eu.2 e;simp only[Instr.sameNow,hb];rw[ih];simp only[qg,Nat.add_lt_add_iff_right];rw[show i+1+dJ (ep es) k=i+(dJ (ep es) k+1) by omega]
   rfl
theorem PS(es:List (Int×Int))(k:Int):dJ (ep es) k<es.length↔k∈ep es:=by
 have:=Db (ks:=ep es) (k:=k);unfold ep at this ⊢;rw[tU]at this;exact this
theorem zpp{kt:TypeId}(w:World)(hu:P.underlying kt=some (.int .i64))(es:List (Int×Int))(k:Int):(Instr.findKey kt (za .i64 k) (G5 es)).run P w=.ok (if k∈ep es then some (dJ (ep es) k,za .i64 (qF es k)) else none) w:=by
 refine MapKept.run_findKey hu ?_;have:=zsf k es 0;simp only[kn]at this;unfold G5;rw[this]
 by_cases h:k∈ep es
 ·rw[aD h,aD ((PS es k).2 h)]
 ·rw[aq h,aq (λe=>h ((PS es k).1 e))]
theorem zpr(h:k∉ep es):qF es k=0:=by
 unfold qF;rw[cL,qh]
 ·rfl
 ·rw[tU];exact Nat.le_of_not_lt λe=>h ((PS es k).1 e)
theorem zpq{mt kt et:TypeId}(w:World)(hm:P.underlying mt=some (.map kt et))(hu:P.underlying kt=some (.int .i64))(hz:(zeroValue et).run P w=.ok (za .i64 0) w)(r:Nat)(es:List (Int×Int))(k:Int)(hg:w.heap[r]?=some (.map (qE es) es.length)):
  (Instr.lookup mt (.map (some r)) (za .i64 k) true).run P w=.ok (.tuple #[za .i64 (qF es k),.bool (decide (k∈ep es))]) w:=by
 have hc:∀e:Bool,(Instr.checkKey e 10000 kt (za .i64 k)).run P w=.ok () w:=λe=>MapKept.run_checkKey hu (by simp[MapKept.IsKey]) e 9999
 unfold Instr.lookup;simp only[Sem.run_bind,run_underlying hm,Result.andThen_ok,MapKept.run_getObj_map hg,Sem.run_pure,hc];rw[show (qE es).toList=G5 es by simp[qE],zpp w hu]
 by_cases h:k∈ep es
 ·rw[aD h];simp[h]
 ·rw[aq h];simp[h,hz,zpr h]
theorem ztz{mt kt et:TypeId}(w:World)(hm:P.underlying mt=some (.map kt et))(hu:P.underlying kt=some (.int .i64))(r:Nat)(es:List (Int×Int))(k v:Int)(hk:k∉ep es)(hg:w.heap[r]?=some (.map (qE es) es.length)):
  (Instr.mapUpdate mt (.map (some r)) (za .i64 k) (za .i64 v)).run P w=.ok () {w with heap:=w.heap.setIfInBounds r (.map (qE (es++[(k,v)])) (es++[(k,v)]).length)}:=by
 have hc:∀e:Bool,(Instr.checkKey e 10000 kt (za .i64 k)).run P w=.ok () w:=λe=>MapKept.run_checkKey hu (by simp[MapKept.IsKey]) e 9999
 unfold Instr.mapUpdate;simp only[Sem.run_bind,run_underlying hm,Result.andThen_ok,MapKept.run_getObj_map hg,hc];rw[show (qE es).toList=G5 es by simp[qE],zpp w hu,aq hk];simp only[Result.andThen_ok,MapKept.run_setObj_map _ hg,zrn];simp
theorem zj3{v:Int}(h:k∉ep es):qF (es++[(k,v)]) k=v:=by
 have e:dJ (ep (es++[(k,v)])) k=es.length:=by
  have h1:ep (es++[(k,v)])=ep es++[k]:=by simp[ep]
  rw[h1];unfold dJ;rw[List.findIdx_append,aq (by rw[List.findIdx_lt_length];rintro ⟨x,hx,e⟩;exact h (by rw[of_decide_eq_true e];exact hx))];simp[ep]
 unfold qF;rw[e];simp
end
section
structure GA where
 n:Nat
 emp:Bool
 fst:Nat->Bool
 lst:Nat->Bool
 fol:Nat->Nat->Bool
 st:Nat->Nat->Bool
 zzM:∀i,fst i=true->i<n
 zAD:∀i,lst i=true->i<n
 zzL:∀i j,fol i j=true->i<n/\j<n
 stB:∀i c,st i c=true->i<n
section
variable {tk:Nat->UInt8->Prop} {fol:Nat->Nat->Prop} {D:Nat->Prop} {e:Prop} {first last:Nat->Prop} {M:GA}
end
def two(n:Nat)(φ ψ:Nat->Nat)(i:Nat):Nat:=if i<n then φ i else ψ (i-n)
section
variable {tk:Nat->UInt8->Prop} {fol fol':Nat->Nat->Prop} {D E:Nat->Prop} {e1 e2:Prop} {f1 l1 f2 l2:Nat->Prop} {M N:GA} {φ ψ:Nat->Nat}
end
end


variable {T U:Nat -> Nat}
def uS(x m:Nat):List UInt8:=(List.range m).map λs=>UInt8.ofNat (x/2 ^ (8*s))
theorem Wt(x m:Nat):uS x (m+1)=uS x m++[UInt8.ofNat (x/2 ^ (8*m))]:=by simp[uS,List.range_succ]
theorem WE(x m:Nat):(uS x m).length=m:=by simp[uS]
theorem zqn{x y:Nat}:∀{m:Nat},uS x m=uS y m->x%2 ^ (8*m)=y%2 ^ (8*m)
 |0,_=>by simp[Nat.mod_one]
 |m+1,h=>by
  rw[Wt,Wt]at h;obtain⟨h1,h2⟩:=List.append_inj h (by rw[WE,WE]);have ih:=zqn h1;have h3:UInt8.ofNat (x/2 ^ (8*m))=UInt8.ofNat (y/2 ^ (8*m)):=by simpa using h2
  have h4:=congrArg UInt8.toNat h3;rw[UInt8.toNat_ofNat',UInt8.toNat_ofNat']at h4;have e:2 ^ (8*(m+1))=2 ^ (8*m)*2 ^ 8:=by rw[<-Nat.pow_add];rfl
  rw[e,Nat.mod_mul,Nat.mod_mul,ih,h4]
def rS(T:Nat->Nat)(k:Nat):List UInt8:=(List.range k).flatMap λi=>uS (T i) 8
theorem O7(T:Nat->Nat)(k:Nat):rS T (k+1)=rS T k++uS (T k) 8:=by simp[rS,List.range_succ]
theorem Ps(T:Nat->Nat)(k:Nat):(rS T k).length=8*k:=by
 induction k with
 |zero=>rfl
 |succ k ih=>rw[O7,pz,ih,WE];omega
theorem zo9(hT:∀i,T i<18446744073709551616)(hU:∀i,U i<18446744073709551616):∀k,rS T k=rS U k↔∀i,i<k->T i=U i
 |0=>by simp[rS]
 |k+1=>by
  rw[O7,O7];have ih:=zo9 hT hU k;constructor
  ·intro e;obtain⟨e1,e2⟩:=List.append_inj e (by rw[Ps,Ps]);intro i hi
   by_cases GK:i=k
   ·subst GK;have:=zqn e2;rw[show (2:Nat) ^ (8*8)=18446744073709551616 by decide,xZ (hT _),xZ (hU _)]at this;exact this
   ·exact ih.1 e1 i (by omega)
  ·intro e;rw[ih.2 (λi hi=>e i (by omega)),e k (by omega)]
def lI(nw:Nat)(T:Nat->Nat):ByteArray:=⟨(rS T nw).toArray⟩
theorem zo8{nw:Nat}(hT:∀i,T i<18446744073709551616)(hU:∀i,U i<18446744073709551616):lI nw T=lI nw U↔∀i,i<nw->T i=U i:=by
 rw[<-zo9 hT hU nw];unfold lI;constructor
 ·intro e;have:=congrArg (λb:ByteArray=>b.data.toList) e
  simpa using this
 ·intro e;rw[e]
end Go.Proofs.YtdimhpfiieepiaaGreatDoor
