import Derived.Test.YtplhghhfdabccaaNodeT
namespace Go.Proofs.Ytplhghhfdabccaa
open Go.RowKit

theorem nodeOK_ok {lo : Nat} (k mn mx g : Int) (v : Value) (rs : List (Int × Int)) (w : World) (hs : RangesAt lo w v rs) :
    Calls Try.prog 56 #[.agg #[.int .i64 k, v, .int .i64 mn, .int .i64 mx, .int .i64 g]] w fun e w' => e = .returned (.bool (nodeB ⟨k, rs, mn, mx, g⟩)) ∧ Below w.heap.size w w' := by
  have fin : ∀ {b : Bool}, nodeB ⟨k, rs, mn, mx, g⟩ = b → ∀ (e : Ending) (w' : World), (e = .returned (.bool b) ∧ Below w.heap.size w w') → (e = .returned (.bool (nodeB ⟨k, rs, mn, mx, g⟩)) ∧ Below w.heap.size w w') := by
    intro b hb e w' h; rw [hb]; exact h
  by_cases hlow : k < 1
  · exact (nodeOK_low k mn mx g v rs w hs hlow).mono (fin (by unfold nodeB; rw [if_neg (by simp only; omega), if_neg (by simp only; omega), if_neg (by simp only; omega), if_neg (by simp only; omega)]))
  by_cases hhigh : 5 < k
  · exact (nodeOK_high k mn mx g v rs w hs hhigh).mono (fin (by unfold nodeB; rw [if_neg (by simp only; omega), if_neg (by simp only; omega), if_neg (by simp only; omega), if_neg (by simp only; omega)]))
  have hk : k = 1 ∨ k = 2 ∨ k = 3 ∨ k = 4 ∨ k = 5 := by omega
  clear hlow hhigh
  by_cases hl : ((rs.length : Int) == 0) = true
  · by_cases hg : g = 0
    · subst hg
      by_cases hn : mn = 0
      · by_cases hx : mx = 0
        · subst hn hx
          rcases hk with rfl | rfl | rfl | rfl | rfl
          · exact (nodeOK_set v rs w hs).mono (fin (by simp [nodeB]))
          · exact (nodeOK_true2 v rs w hs hl).mono (fin (by simp [nodeB]; exact List.eq_nil_of_length_eq_zero (by have := eq_of_beq hl; omega)))
          · exact (nodeOK_true3 v rs w hs hl).mono (fin (by simp [nodeB]; exact List.eq_nil_of_length_eq_zero (by have := eq_of_beq hl; omega)))
          · exact (nodeOK_tru4b 0 0 v rs w hs hl (by decide) (by decide) (by decide)).mono (fin (by simp [nodeB, boundsB]; exact List.eq_nil_of_length_eq_zero (by have := eq_of_beq hl; omega)))
          · exact (nodeOK_true5 0 v rs w hs hl).mono (fin (by simp [nodeB]; exact List.eq_nil_of_length_eq_zero (by have := eq_of_beq hl; omega)))
        · subst hn
          have hx' : (mx == 0) = false := beq_eq_false_iff_ne.2 hx
          rcases hk with rfl | rfl | rfl | rfl | rfl
          · exact (nodeOK_max1 mx v rs w hs hx').mono (fin (by simp [nodeB, hx]))
          · exact (nodeOK_max2 mx v rs w hs hl hx').mono (fin (by simp [nodeB, hx]))
          · exact (nodeOK_max3 mx v rs w hs hl hx').mono (fin (by simp [nodeB, hx]))
          · by_cases h1 : mx = -1
            · subst h1
              exact (nodeOK_tru4a 0 v rs w hs hl (by decide)).mono (fin (by simp [nodeB, boundsB]; exact List.eq_nil_of_length_eq_zero (by have := eq_of_beq hl; omega)))
            · by_cases h2 : btw mx 0 255 = true
              · exact (nodeOK_tru4b 0 mx v rs w hs hl (by decide) (by simp [h1]) h2).mono (fin (by simp [nodeB, boundsB, h1] at *; simp [btw] at h2; exact ⟨hl, h2⟩))
              · exact (nodeOK_bmax 0 mx v rs w hs hl (by decide) (by simp [h1]) (by simpa using h2)).mono (fin (by simp [nodeB, boundsB, h1]; intro _; simp [btw] at h2; omega))
          · exact (nodeOK_max5 mx 0 v rs w hs hl hx').mono (fin (by simp [nodeB, hx]))
      · have hn' : (mn == 0) = false := beq_eq_false_iff_ne.2 hn
        rcases hk with rfl | rfl | rfl | rfl | rfl
        · exact (nodeOK_min1 mn mx v rs w hs hn').mono (fin (by simp [nodeB, hn]))
        · exact (nodeOK_min2 mn mx v rs w hs hl hn').mono (fin (by simp [nodeB, hn]))
        · exact (nodeOK_min3 mn mx v rs w hs hl hn').mono (fin (by simp [nodeB, hn]))
        · by_cases h0 : btw mn 0 255 = true
          · by_cases h1 : mx = -1
            · subst h1
              exact (nodeOK_tru4a mn v rs w hs hl h0).mono (fin (by simp [nodeB, boundsB] at *; simp [btw] at h0; exact ⟨hl, h0⟩))
            · by_cases h2 : btw mx mn 255 = true
              · exact (nodeOK_tru4b mn mx v rs w hs hl h0 (by simp [h1]) h2).mono (fin (by simp [nodeB, boundsB, h1] at *; simp [btw] at h0 h2; exact ⟨hl, h0, h2⟩))
              · exact (nodeOK_bmax mn mx v rs w hs hl h0 (by simp [h1]) (by simpa using h2)).mono (fin (by simp [nodeB, boundsB, h1]; intro _ _ _; simp [btw] at h2; omega))
          · exact (nodeOK_bmin mn mx v rs w hs hl (by simpa using h0)).mono (fin (by simp [nodeB, boundsB]; simp [btw] at h0; intro _ _; omega))
        · exact (nodeOK_min5 mn mx 0 v rs w hs hl hn').mono (fin (by simp [nodeB, hn]))
    · have hg' : (g == 0) = false := beq_eq_false_iff_ne.2 hg
      rcases hk with rfl | rfl | rfl | rfl | rfl
      · exact (nodeOK_grp1 mn mx g v rs w hs hg').mono (fin (by simp [nodeB, hg]))
      · exact (nodeOK_grp2 mn mx g v rs w hs hl hg').mono (fin (by simp [nodeB, hg]))
      · exact (nodeOK_grp3 mn mx g v rs w hs hl hg').mono (fin (by simp [nodeB, hg]))
      · exact (nodeOK_grp4 mn mx g v rs w hs hl hg').mono (fin (by simp [nodeB, hg]))
      · by_cases hn : mn = 0
        · subst hn
          by_cases hx : mx = 0
          · subst hx
            exact (nodeOK_true5 g v rs w hs hl).mono (fin (by simp [nodeB]; exact List.eq_nil_of_length_eq_zero (by have := eq_of_beq hl; omega)))
          · exact (nodeOK_max5 mx g v rs w hs hl (beq_eq_false_iff_ne.2 hx)).mono (fin (by simp [nodeB, hx]))
        · exact (nodeOK_min5 mn mx g v rs w hs hl (beq_eq_false_iff_ne.2 hn)).mono (fin (by simp [nodeB, hn]))
  · have hl' : ((rs.length : Int) == 0) = false := by simpa using hl
    rcases hk with rfl | rfl | rfl | rfl | rfl
    · by_cases hg : g = 0
      · subst hg
        by_cases hn : mn = 0
        · subst hn
          by_cases hx : mx = 0
          · subst hx
            exact (nodeOK_set v rs w hs).mono (fin (by simp [nodeB]))
          · exact (nodeOK_max1 mx v rs w hs (beq_eq_false_iff_ne.2 hx)).mono (fin (by simp [nodeB, hx]))
        · exact (nodeOK_min1 mn mx v rs w hs (beq_eq_false_iff_ne.2 hn)).mono (fin (by simp [nodeB, hn]))
      · exact (nodeOK_grp1 mn mx g v rs w hs (beq_eq_false_iff_ne.2 hg)).mono (fin (by simp [nodeB, hg]))
    · exact (nodeOK_len2 mn mx g v rs w hs hl').mono (fin (by simp [nodeB, hl']))
    · exact (nodeOK_len3 mn mx g v rs w hs hl').mono (fin (by simp [nodeB, hl']))
    · exact (nodeOK_len4 mn mx g v rs w hs hl').mono (fin (by simp [nodeB, hl']))
    · exact (nodeOK_len5 mn mx g v rs w hs hl').mono (fin (by simp [nodeB, hl']))
end Go.Proofs.Ytplhghhfdabccaa
