import Derived.Test.YthddplbodacjgaaGreatDoorC50
import Derived.Test.YthddplbodacjgaaGreatDoorRows
import Derived.Test.YthddplbodacjgaaGreatDoorCards
import Derived.Test.YthddplbodacjgaaGreatDoorTie
import Derived.ProofKit
import Derived.ChangeSame
import Derived.ChangeVars
import Derived.JoinedOf
import Derived.RowKitTokens
import Derived.LaidLaws
import Derived.LaidHandle
import Derived.Lib.LaidTab
import Derived.SevenTiedAt
namespace Go.Proofs.YthddplbodacjgaaGreatDoor
set_option maxRecDepth 100000
open Go.ChangeShapes Go.WideShapes Go.ChangeAt Go.RowKit Go.Joins
theorem Tryz.own:ownKnob Tryz.prog.godebug=none:=by kernel_rfl
theorem Tryz.laidOut:laidOutB Tryz.prog=true:=by kernel_rfl
theorem Tryz.tabNamed:Tryz.prog.globalNamed "math/bits.deBruijn64tab" = some 0:=by kernel_rfl
theorem Tryz.tabType:(Tryz.prog.globals[0]?).map (·.type)=some 225:=by kernel_rfl
theorem Tryz.cellsByte:Tryz.prog.cellsOf 5=1:=by kernel_rfl
theorem Tryz.cellsTab:Tryz.prog.cellsOf 225=64:=by kernel_rfl
theorem zhu{W:World}(h:laidMetH Tryz.prog Rows.fnExactCompileRow.laid W):zbj W:=by
 have h':laidMet Tryz.prog [("math/bits.deBruijn64tab",Lib.tabData .u8 (zki.map fun n:Nat=>(n:Int)))] W:=h;have hT:=Lib.tabIs_of_head Tryz.tabNamed Tryz.tabType Tryz.underlying225 Tryz.underlying5 Tryz.cellsByte Tryz.cellsTab h';intro i hi;have hi':i<zki.length:=hi;have:=hT.cell Tryz.tabNamed i (by simpa using hi');rw[this];simp[List.getD,hi']
noncomputable def zjD (os:Os):World:=
 {World.holding Tryz.prog os ⟨#[],#[],[]⟩ with heap:=(World.holding Tryz.prog os ⟨#[],#[],[]⟩).heap.modify 0 fun
   |.cells _ t frozen=>.cells (zki.map fun n:Nat=>Value.int .u8 (n:Int)).toArray t frozen
   |o=>o}
theorem ziA(os:Os)(args:Array Value):laidMetH Tryz.prog Rows.fnExactCompileRow.laid ((zjD os).forCall (fun _ _=>0) ⟨#[],args,[]⟩).memory:=
 laidMet_of_run' 8 (by kernel_rfl) (by kernel_rfl)
theorem zei(os:Os)(started:os.Started)(H:Type)(enc:TypeId×Value->H):
  ReturnsInHanded {} Tryz.checked os 3 .any (fun w args=>(Rows.fnExactCompileSpec.pre enc Tryz.prog Tryz.f3 Rows.fnExactCompileRow.domain false w args/\laidMetH Tryz.prog Rows.fnExactCompileRow.laid w)/\sizedMet enc Tryz.prog Tryz.f3 (OpenSpec.ofChange Rows.fnExactCompileSpec) false w args)
   (Rows.fnExactCompileSpec.post enc Tryz.prog Tryz.f3 false true false false):=by
 refine returnsInHanded_of_change_and (C:=Tryz.checked) (X:=fun w _=>laidMetH Tryz.prog Rows.fnExactCompileRow.laid w) (fun _ _ _ hh h=>h.of_heap hh) Tryz.own started (by kernel_rfl) Tryz.func3
  (ChangeSpec.witness_at (enc:=enc) (C:=Tryz.checked) (os:=os) (X:=fun w _=>laidMetH Tryz.prog Rows.fnExactCompileRow.laid w) false (zjD os) #[.slice none 0 0,.int .i64 0] 8 rfl (by kernel_rfl) (by kernel_rfl) (by kernel_rfl) (by kernel_rfl) (by kernel_rfl) (ziA os _)) ?_
 intro W base args ds gs before hval0 hW _ _ hL _;have hval:∀(j:Nat) t v,Tryz.f3.params[j]?=some t->args[j]?=some v->Value.okWide Tryz.prog W .any base t v:=hval0;have hW':=hW;obtain⟨p,q,hA0,hV,rfl,hfz,hnd⟩:=hW;have hA:DataW.TrodAll enc Tryz.prog W 0 (fun _=>true) true Tryz.f3.params.toList args.toList ds p:=hA0;rw[Tryz.params3] at hA hval;obtain⟨v0,vs0,d0,ds0,p0,q0,hargs,rfl,rfl,h0,r0⟩:=trodAll_cons hA;obtain⟨v1,vs1,d1,ds1,p1,q1,rfl,rfl,rfl,h1,r1⟩:=trodAll_cons r0;obtain⟨rfl,rfl,rfl⟩:=trodAll_nil r1;obtain rfl:args=#[v0,v1]:=by cases args;simp_all
 obtain⟨rfl,rfl⟩:=trodVars_none hV;have k0:=h0;have lt0:∀x∈p0,x.block<W.heap.size:=by obtain⟨m,hm⟩:=k0;exact DataW.trod_lt m _ _ _ hm
 have k1:=h1;have lt1:∀x∈p1,x.block<W.heap.size:=by obtain⟨m,hm⟩:=k1;exact DataW.trod_lt m _ _ _ hm
 obtain⟨rs,hD⟩:=znu (hval 0 22 v0 rfl rfl) h0;obtain⟨most,rfl,-,-,-⟩:=open_int Tryz.underlying3 (hval 1 3 v1 rfl rfl) h1;clear hA0 hval0;have hB:=zhu hL;have hz:0<W.heap.size:=block_lt_of_cell (hB 0 (by omega));refine(ziC v0 rs most W hD hB hz).mono fun e W' ⟨he,bel⟩=>?_
 subst he;exact⟨_,rfl,_,_,_,[],_,[],hW',trodAll_mk1 (shut_bool Tryz.underlying4 _),(trodAll_cons_mk (Below.trod Tryz.laidOut (by kernel_rfl) (of_decide_eq_true (by kernel_rfl)) k0 bel lt0) (trodAll_cons_mk (Below.trod Tryz.laidOut (by kernel_rfl) (of_decide_eq_true (by kernel_rfl)) k1 bel lt1) trodAll_mk0)),rfl,bel.frame _,fun h=>by cases h⟩
theorem ze1:Rows.FnExactCompileSaid:=
 OpenClaim.holds_of_wide 3 Tryz.f3 rfl rfl rfl rfl rfl rfl rfl ⟨rfl,rfl,rfl,rfl,rfl⟩ rfl rfl rfl rfl rfl (by kernel_rfl) Tryz.func3 (by kernel_rfl)
  (of_decide_eq_true (by kernel_rfl)) (by unfold Func.isWrapper;first|(rw[zuV (by decide +kernel)];kernel_rfl)|(rw[zuU (by decide +kernel)];exact⟨rfl,rfl⟩))
  (fun os started H enc _=>zei os started H enc)
theorem fnExactCompile_holds:Rows.FnExactCompileCardSaid:=
 Claim7.holds_tied_plain_at .later [] [.data] true Rows.fnExactCompileCard.stood.harness Rows.fnExactCompileCard.stood.looks
  ze1 (fun _ h=>by cases h) (by kernel_rfl) (fun _ h=>by cases h) fnExactCompile_row_tie rfl ⟨rfl,rfl⟩ (by kernel_rfl) rfl
  (fun f fn hf hfn=>by
   obtain rfl:f=3:=Option.some.inj ((show Tryz.prog.funcNamed "loop.example/s0007/laws.FnExactCompile" = some 3 by kernel_rfl).symm.trans hf) |>.symm
   obtain rfl:fn=Tryz.f3:=(Option.some.inj (Tryz.func3.symm.trans hfn)).symm;exact⟨by kernel_rfl,fun j t ht=>by
    rw[Tryz.params3] at ht;have h3:t=22\/t=3:=by
     rcases j with _|_|j
     ·exact .inl (by simpa using ht.symm)
     ·exact .inr (by simpa using ht.symm)
     ·simp at ht
    rcases h3 with h3|h3
    ·subst h3;exact(show Tryz.prog.wantsStandIn 22=false by kernel_rfl)
    ·subst h3;exact(show Tryz.prog.wantsStandIn 3=false by kernel_rfl)⟩)
  (by kernel_rfl)
#print axioms fnExactCompile_holds
end Go.Proofs.YthddplbodacjgaaGreatDoor
