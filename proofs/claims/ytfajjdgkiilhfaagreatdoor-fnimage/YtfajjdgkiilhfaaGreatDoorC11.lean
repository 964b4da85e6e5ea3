import Derived.Test.YtfajjdgkiilhfaaGreatDoorC10
namespace Go.Proofs.YtfajjdgkiilhfaaGreatDoor
open Go.RowKit
attribute [local go_sem ↓] wp_at_zero wp_at_succ
variable {mn mx g:Int}{rs:List (Int×Int)}
theorem zlz(h:bk ⟨4,rs,mn,mx,g⟩=true):rs=[]/\lz mn mx=true/\g=0:=by
 simp[bk]at h;exact⟨h.1.1,h.1.2,h.2⟩
theorem zlA{k:Int}(h:bk ⟨k,rs,mn,mx,g⟩=true):k=1\/k=2\/k=3\/k=4\/k=5:=by
 unfold bk at h
 by_cases h1:k=1
 ·exact .inl h1
 by_cases h2:k=2
 ·exact .inr (.inl h2)
 by_cases h3:k=3
 ·exact .inr (.inr (.inl h3))
 by_cases h4:k=4
 ·exact .inr (.inr (.inr (.inl h4)))
 by_cases h5:k=5
 ·exact .inr (.inr (.inr (.inr h5)))
 simp[h1,h2,h3,h4,h5]at h
theorem znE(st:List Int)(m:Nat):(st.drop m).getD 0 0=st.getD m 0/\(st.drop m).getD 1 0=st.getD (m+1) 0:=by
 simp[List.getD_eq_getElem?_getD,List.getElem?_drop]
theorem znD(st:List Int)(m:Nat):(st.drop m).getD 0 0=st.getD m 0:=by
 simp[List.getD_eq_getElem?_getD,List.getElem?_drop]
end Go.Proofs.YtfajjdgkiilhfaaGreatDoor
