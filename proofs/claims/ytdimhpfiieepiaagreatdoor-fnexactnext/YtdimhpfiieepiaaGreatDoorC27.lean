import Derived.Test.YtdimhpfiieepiaaGreatDoorC26
namespace Go.Proofs.YtdimhpfiieepiaaGreatDoor
section
variable{P:Program}{es:List (Int×Int)}{k:Int}
open Go.RowKit
attribute [local go_sem ↓] Go.wp_at_zero Go.wp_at_succ
def moL(es:List (Int×Int)):List MapEntry:=es.zipIdx.map fun x=>{key:=.int .i64 x.1.1,val:=.int .i64 x.1.2,born:=x.2}
def moE(es:List (Int×Int)):Array MapEntry:=(moL es).toArray
def zbp(es:List (Int×Int)):List Int:=es.map Prod.fst
def mvG(es:List (Int×Int))(k:Int):Int:=(es.map Prod.snd).getD (idxR (zbp es) k) 0
theorem zrS(es:List (Int×Int))(k v:Int):(moE es).push {key:=.int .i64 k,val:=.int .i64 v,born:=es.length}=moE (es++[(k,v)]):=by
 simp[moE,moL,List.zipIdx_append]
theorem zsK(k:Int):∀(es:List (Int×Int)) (i:Nat),Instr.findNow (.int .i64) (.int .i64 k) ((es.zipIdx i).map fun x=>{key:=.int .i64 x.1.1,val:=.int .i64 x.1.2,born:=x.2}) i=some (if idxR (zbp es) k<es.length then some (i+idxR (zbp es) k,.int .i64 (mvG es k)) else none)
 |[],i=>by simp[Instr.findNow,idxR,zbp]
 |x::es,i=>by
  rw[List.zipIdx_cons,zvn];unfold Instr.findNow
  by_cases e:k=x.1
  ·have h0:idxR (zbp (x::es)) k=0:=by simp[idxR,zbp,List.findIdx_cons,e]
   have h1:mvG (x::es) k=x.2:=by unfold mvG;rw[h0];rfl
   rw[h0,h1];simp[Instr.sameNow,e]
  ·have h0:idxR (zbp (x::es)) k=idxR (zbp es) k+1:=by simp[idxR,zbp,List.findIdx_cons,e]
   have h1:mvG (x::es) k=mvG es k:=by unfold mvG;rw[h0];rfl
   have ih:=zsK k es (i+1);rw[h0,h1];have hb:(k==x.1)=false:=zvU.2 e;simp only[Instr.sameNow,hb];rw[ih];simp only[zvi,Nat.add_lt_add_iff_right];rw[show i+1+idxR (zbp es) k=i+(idxR (zbp es) k+1) by omega]
   rfl
theorem zmR(es:List (Int×Int))(k:Int):idxR (zbp es) k<es.length↔k∈zbp es:=by
 have:=zdX (ks:=zbp es) (k:=k);unfold zbp at this ⊢;rw[zvj] at this;exact this
theorem zpV{kt:TypeId}(w:World)(hu:P.underlying kt=some (.int .i64))(es:List (Int×Int))(k:Int):(Instr.findKey kt (.int .i64 k) (moL es)).run P w=.ok (if k∈zbp es then some (idxR (zbp es) k,.int .i64 (mvG es k)) else none) w:=by
 refine MapKept.run_findKey hu ?_;have:=zsK k es 0;simp only[zvS] at this;unfold moL;rw[this]
 by_cases h:k∈zbp es
 ·rw[zv3 h,zv3 ((zmR es k).2 h)]
 ·rw[zv2 h,zv2 (fun e=>h ((zmR es k).1 e))]
theorem zpX(h:k∉zbp es):mvG es k=0:=by
 unfold mvG;rw[zu3,zvb]
 ·rfl
 ·rw[zvj];exact Nat.le_of_not_lt fun e=>h ((zmR es k).1 e)
theorem zpW{mt kt et:TypeId}(w:World)(hm:P.underlying mt=some (.map kt et))(hu:P.underlying kt=some (.int .i64))(hz:(zeroValue et).run P w=.ok (.int .i64 0) w)(r:Nat)(es:List (Int×Int))(k:Int)(hg:w.heap[r]?=some (.map (moE es) es.length)):
  (Instr.lookup mt (.map (some r)) (.int .i64 k) true).run P w=.ok (.tuple #[.int .i64 (mvG es k),.bool (decide (k∈zbp es))]) w:=by
 have hc:∀e:Bool,(Instr.checkKey e 10000 kt (.int .i64 k)).run P w=.ok () w:=fun e=>MapKept.run_checkKey hu (by simp[MapKept.IsKey]) e 9999
 unfold Instr.lookup;simp only[Sem.run_bind,run_underlying hm,Result.andThen_ok,MapKept.run_getObj_map hg,Sem.run_pure,hc];rw[show (moE es).toList=moL es by simp[moE],zpV w hu]
 by_cases h:k∈zbp es
 ·rw[zv3 h];simp[h]
 ·rw[zv2 h];simp[h,hz,zpX h]
theorem zue{mt kt et:TypeId}(w:World)(hm:P.underlying mt=some (.map kt et))(hu:P.underlying kt=some (.int .i64))(r:Nat)(es:List (Int×Int))(k v:Int)(hk:k∉zbp es)(hg:w.heap[r]?=some (.map (moE es) es.length)):
  (Instr.mapUpdate mt (.map (some r)) (.int .i64 k) (.int .i64 v)).run P w=.ok () {w with heap:=w.heap.setIfInBounds r (.map (moE (es++[(k,v)])) (es++[(k,v)]).length)}:=by
 have hc:∀e:Bool,(Instr.checkKey e 10000 kt (.int .i64 k)).run P w=.ok () w:=fun e=>MapKept.run_checkKey hu (by simp[MapKept.IsKey]) e 9999
 unfold Instr.mapUpdate;simp only[Sem.run_bind,run_underlying hm,Result.andThen_ok,MapKept.run_getObj_map hg,hc];rw[show (moE es).toList=moL es by simp[moE],zpV w hu,zv2 hk];simp only[Result.andThen_ok,MapKept.run_setObj_map _ hg,zrS];simp
theorem zkl{v:Int}(h:k∉zbp es):mvG (es++[(k,v)]) k=v:=by
 have e:idxR (zbp (es++[(k,v)])) k=es.length:=by
  have h1:zbp (es++[(k,v)])=zbp es++[k]:=by simp[zbp]
  rw[h1];unfold idxR;rw[List.findIdx_append,zv2 (by rw[List.findIdx_lt_length];rintro ⟨x,hx,e⟩;exact h (by rw[of_decide_eq_true e];exact hx))];simp[zbp]
 unfold mvG;rw[e];simp
end
section
structure GA where
 n:Nat
 emp:Bool
 fst:Nat->Bool
 lst:Nat->Bool
 fol:Nat->Nat->Bool
 st:Nat->Nat->Bool
 fstB:∀i,fst i=true->i<n
 lstB:∀i,lst i=true->i<n
 folB:∀i j,fol i j=true->i<n/\j<n
 stB:∀i c,st i c=true->i<n
section
variable {tk:Nat->UInt8->Prop} {fol:Nat->Nat->Prop} {D:Nat->Prop} {e:Prop} {first last:Nat->Prop} {M:GA}
end
def two(n:Nat)(φ ψ:Nat->Nat)(i:Nat):Nat:=if i<n then φ i else ψ (i-n)
section
variable {tk:Nat->UInt8->Prop} {fol fol':Nat->Nat->Prop} {D E:Nat->Prop} {e1 e2:Prop} {f1 l1 f2 l2:Nat->Prop} {M N:GA} {φ ψ:Nat->Nat}
end
end


variable{T U:Nat -> Nat}
def wdU(x m:Nat):List UInt8:=(List.range m).map fun s=>UInt8.ofNat (x/2 ^ (8*s))
theorem zjE(x m:Nat):wdU x (m+1)=wdU x m++[UInt8.ofNat (x/2 ^ (8*m))]:=by simp[wdU,List.range_succ]
theorem zmr(x m:Nat):(wdU x m).length=m:=by simp[wdU]
theorem zqS{x y:Nat}:∀{m:Nat},wdU x m=wdU y m->x%2 ^ (8*m)=y%2 ^ (8*m)
 |0,_=>by simp[Nat.mod_one]
 |m+1,h=>by
  rw[zjE,zjE] at h;obtain⟨h1,h2⟩:=List.append_inj h (by rw[zmr,zmr]);have ih:=zqS h1;have h3:UInt8.ofNat (x/2 ^ (8*m))=UInt8.ofNat (y/2 ^ (8*m)):=by simpa using h2
  have h4:=congrArg UInt8.toNat h3;rw[UInt8.toNat_ofNat',UInt8.toNat_ofNat'] at h4;have e:2 ^ (8*(m+1))=2 ^ (8*m)*2 ^ 8:=by rw[<-Nat.pow_add];rfl
  rw[e,Nat.mod_mul,Nat.mod_mul,ih,h4]
def keyU(T:Nat->Nat)(k:Nat):List UInt8:=(List.range k).flatMap fun i=>wdU (T i) 8
theorem ze5(T:Nat->Nat)(k:Nat):keyU T (k+1)=keyU T k++wdU (T k) 8:=by simp[keyU,List.range_succ]
theorem zgr(T:Nat->Nat)(k:Nat):(keyU T k).length=8*k:=by
 induction k with
 |zero=>rfl
 |succ k ih=>rw[ze5,zvh,ih,zmr];omega
theorem zpF(hT:∀i,T i<18446744073709551616)(hU:∀i,U i<18446744073709551616):∀k,keyU T k=keyU U k↔∀i,i<k->T i=U i
 |0=>by simp[keyU]
 |k+1=>by
  rw[ze5,ze5];have ih:=zpF hT hU k;constructor
  ·intro e;obtain⟨e1,e2⟩:=List.append_inj e (by rw[zgr,zgr]);intro i hi
   by_cases hik:i=k
   ·subst hik;have:=zqS e2;rw[show (2:Nat) ^ (8*8)=18446744073709551616 by decide,zvP (hT _),zvP (hU _)] at this;exact this
   ·exact ih.1 e1 i (by omega)
  ·intro e;rw[ih.2 (fun i hi=>e i (by omega)),e k (by omega)]
def keyB(nw:Nat)(T:Nat->Nat):ByteArray:=⟨(keyU T nw).toArray⟩
theorem zpE{nw:Nat}(hT:∀i,T i<18446744073709551616)(hU:∀i,U i<18446744073709551616):keyB nw T=keyB nw U↔∀i,i<nw->T i=U i:=by
 rw[<-zpF hT hU nw];unfold keyB;constructor
 ·intro e;have:=congrArg (fun b:ByteArray=>b.data.toList) e
  simpa using this
 ·intro e;rw[e]
end Go.Proofs.YtdimhpfiieepiaaGreatDoor
