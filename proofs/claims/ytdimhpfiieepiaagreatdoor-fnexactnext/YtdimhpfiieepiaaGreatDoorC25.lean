import Derived.Test.YtdimhpfiieepiaaGreatDoorC24
import Derived.Deep.AppendLies
import Derived.Deep.RegionLaw
import Derived.MapKept
import Derived.Laws.StructEq
import Derived.Laws.Small
namespace Go.Proofs.YtdimhpfiieepiaaGreatDoor
open Go renaming Value->za,World->zb
section
open Go.RowKit
end
section
open Go.RowKit
end
section
open Go.RowKit
attribute [local go_sem ↓] wp_at_zero wp_at_succ
end

section
open Go.RowKit
section
variable {gt:Nat} {W W':zb} {p:Nat} {mv:za} {m:Nat} {mi:Nat->Nat} {v:Nat->za} {l:Nat->List Int} {N:Nat} {o wk:List Nat} {mem:Nat->List Nat}
end
end
section
open Go.RowKit
end
section
variable {P:Program}
open Go.RowKit
attribute [local go_sem ↓] wp_at_zero wp_at_succ
def xJ{κ:Type}(enc:κ->za)(ks:List κ):List MapEntry:=ks.zipIdx.map λx=>{key:=enc x.1,val:=.int .i64 (x.2:Int),born:=x.2}
def mA{κ:Type}(enc:κ->za)(ks:List κ):Array MapEntry:=(xJ enc ks).toArray
theorem zpW{κ:Type}(enc:κ->za)(ks:List κ)(k:κ):xJ enc (ks++[k])=xJ enc ks++[{key:=enc k,val:=.int .i64 (ks.length:Int),born:=ks.length}]:=by simp[xJ,List.zipIdx_append]
theorem zpU{κ:Type}(enc:κ->za)(ks:List κ)(k:κ):(mA enc ks).push {key:=enc k,val:=.int .i64 (ks.length:Int),born:=ks.length}=mA enc (ks++[k]):=by
 unfold mA;rw[zpW];simp
theorem zpV{κ:Type}(enc:κ->za)(ks:List κ):(mA enc ks).size=ks.length:=by simp[mA,xJ]
def dJ{κ:Type} [DecidableEq κ] (ks:List κ)(k:κ):Nat:=ks.findIdx λx=>decide (k=x)
def IC{κ:Type} [DecidableEq κ] (ks:List κ)(k:κ):Option (Nat×za):=if dJ ks k<ks.length then some (dJ ks k,.int .i64 (dJ ks k:Int)) else none
theorem Db{κ:Type} [DecidableEq κ] {ks:List κ}{k:κ}:dJ ks k<ks.length↔k∈ks:=by
 unfold dJ;rw[List.findIdx_lt_length];exact⟨λ⟨x,h1,h2⟩=>(of_decide_eq_true h2) ▸ h1,λh=>⟨k,h,by simp⟩⟩
theorem zsM{κ:Type} [DecidableEq κ] (ks:List κ)(k:κ):dJ ks k<=ks.length:=List.findIdx_le_length
theorem zq0{κ:Type} [DecidableEq κ] {ks:List κ}{k:κ}(h:k∈ks):ks[dJ ks k]?=some k:=by
 have hl:=Db.2 h;rw[eY hl];have:=List.findIdx_getElem (w:=hl);exact congrArg some (of_decide_eq_true this).symm
theorem zrL{mt kt et:TypeId}{κ:Type} [DecidableEq κ] (enc:κ->za)(w:zb)(hm:P.underlying mt=some (.map kt et))(hc:∀(e:Bool) (k:κ),(Instr.checkKey e 10000 kt (enc k)).run P w=.ok () w)(hf:∀(ks:List κ) (k:κ),(Instr.findKey kt (enc k) (xJ enc ks)).run P w=.ok (IC ks k) w)(hz:(zeroValue et).run P w=.ok (.int .i64 0) w)(r:Nat)(ks:List κ)(k:κ)(hg:w.heap[r]?=some (.map (mA enc ks) ks.length)):
  (Instr.lookup mt (.map (some r)) (enc k) true).run P w=.ok (.tuple #[.int .i64 (if k∈ks then (dJ ks k:Int) else 0),.bool (decide (k∈ks))]) w:=by
 unfold Instr.lookup;simp only[Sem.run_bind,run_underlying hm,Result.andThen_ok,MapKept.run_getObj_map hg,Sem.run_pure,hc];rw[show (mA enc ks).toList=xJ enc ks by simp[mA],hf];unfold IC
 by_cases h:k∈ks
 ·rw[aD (Db.2 h)];simp[h]
 ·rw[aq (λe=>h (Db.1 e))];simp[h,hz]
theorem zs4{mt kt et:TypeId}{κ:Type} [DecidableEq κ] (enc:κ->za)(w:zb)(hm:P.underlying mt=some (.map kt et))(hc:∀(e:Bool) (k:κ),(Instr.checkKey e 10000 kt (enc k)).run P w=.ok () w)(hf:∀(ks:List κ) (k:κ),(Instr.findKey kt (enc k) (xJ enc ks)).run P w=.ok (IC ks k) w)(r:Nat)(ks:List κ)(k:κ)(hk:k∉ks)(hg:w.heap[r]?=some (.map (mA enc ks) ks.length)):
  (Instr.mapUpdate mt (.map (some r)) (enc k) (.int .i64 (ks.length:Int))).run P w=.ok () {w with heap:=w.heap.setIfInBounds r (.map (mA enc (ks++[k])) (ks++[k]).length)}:=by
 unfold Instr.mapUpdate;simp only[Sem.run_bind,run_underlying hm,Result.andThen_ok,MapKept.run_getObj_map hg,hc];rw[show (mA enc ks).toList=xJ enc ks by simp[mA],hf];unfold IC;rw[aq (λe=>hk (Db.1 e))];simp only[Result.andThen_ok,MapKept.run_setObj_map _ hg,zpU];simp
end
open Go.RowKit
attribute [local go_sem ↓] wp_at_zero wp_at_succ
def BO{κ:Type} [DecidableEq κ] (ks:List κ)(k:κ):List κ:=if k∈ks then ks else ks++[k]
theorem zl9{κ:Type} [DecidableEq κ] {ks:List κ}{k:κ}(h:k∉ks):dJ ks k=ks.length:=by
 have:=zsM ks k;have:¬dJ ks k<ks.length:=λe=>h (Db.1 e)
 omega
def QX{κ:Type} [DecidableEq κ] (enc:κ->za)(w:zb)(r:Nat)(ks:List κ)(k:κ)(e:Ending)(w':zb):Prop:=
 e=.returned (.tuple #[.int .i64 (dJ ks k:Int),.bool (decide (k∉ks))])/\w'.heap[r]?=some (.map (mA enc (BO ks k)) (BO ks k).length)/\w.grownBy w' (some r)
theorem Tryz.zzz(w:zb):(zeroValue 3).run Tryz.prog w=.ok (.int .i64 0) w:=by
 simp[zeroValue,typeInfo]
 kernel_rfl
end Go.Proofs.YtdimhpfiieepiaaGreatDoor
