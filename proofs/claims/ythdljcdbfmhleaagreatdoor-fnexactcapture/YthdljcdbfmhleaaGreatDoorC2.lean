import Derived.Test.YthdljcdbfmhleaaGreatDoorC1
import Derived.BigQuiet
namespace Go.Proofs.YthdljcdbfmhleaaGreatDoor
section
open Go.RowKit
attribute [local go_sem ↓] Go.wp_at_zero Go.wp_at_succ
end
section
open Go.RowKit
attribute [local go_sem ↓] Go.wp_at_zero Go.wp_at_succ
end
section
open Go.RowKit
end
section
open Go.RowKit
attribute [local go_sem ↓] Go.wp_at_zero Go.wp_at_succ
end
section
open Go.RowKit
end
section
open Go.RowKit
end
open Go
section
variable {P:Program} {ops:Array Oper} {md:Region.Mode} {C:World->Prop}
def zgg(md:Region.Mode)(ops:Array Oper)(n i:Nat):Bool:=
 match ops[n]? with
 |some o=>o.after.any fun e=>Region.binds md e&&e.on==i
 |none=>false
theorem zeH{n i:Nat}(h:zgg md ops n i=true)(listed:Array Bool)(hr:n∈Region.ready md ops listed):listed.getD i true=true:=by
 obtain⟨_,o,ho,hall⟩:=mem_ready.1 hr;unfold zgg at h;rw[ho] at h;simp only[Array.any_eq_true,Bool.and_eq_true,beq_iff_eq] at h;obtain⟨k,hk,hb,he⟩:=h;have h1:=hall _ (Array.getElem_mem hk) hb;rw[he] at h1;rcases Nat.lt_or_ge i listed.size with h'|h'
 ·simp[h'] at h1 ⊢;exact h1
 ·simp[Array.getElem?_eq_none h'] at h1
end
end Go.Proofs.YthdljcdbfmhleaaGreatDoor
