import Derived.Test.YtgbdlgogccgciaaRunSMinM
import Derived.Test.YtgbdlgogccgciaaMinN
namespace Go.Proofs.Ytgbdlgogccgciaa
open Go.RowKit
attribute [local go_sem ↓] Go.wp_at_zero Go.wp_at_succ

/- ROWS OF NUMBERS OF THE CALL'S OWN. -/
def natL (l : List Nat) : List Value := l.map fun x : Nat => .int .i64 (x : Int)
theorem natL_len (l : List Nat) : (natL l).length = l.length := by simp [natL]
theorem natL_snoc (l : List Nat) (x : Nat) : natL (l ++ [x]) = natL l ++ [.int .i64 (x : Int)] := by simp [natL]
theorem natL_set (l : List Nat) (i x : Nat) : (natL l).set i (.int .i64 (x : Int)) = natL (l.set i x) := by simp [natL, List.map_set]
theorem natL_get (l : List Nat) {i : Nat} (h : i < l.length) : (natL l)[i]? = some (.int .i64 ((l.getD i 0 : Nat) : Int)) := by
  simp [natL, List.getD_eq_getElem?_getD, h]
def intsN (l : List Nat) : List Int := l.map fun x : Nat => (x : Int)
theorem intsN_len (l : List Nat) : (intsN l).length = l.length := by simp [intsN]
theorem intsN_get (l : List Nat) (i : Nat) : (intsN l).getD i 0 = ((l.getD i 0 : Nat) : Int) := by
  simp only [intsN, List.getD_eq_getElem?_getD, List.getElem?_map]
  cases l[i]? <;> rfl
theorem own_ints {w : World} {B g cap : Nat} {l : List Nat} (h : w.ownsRow B 3 1 (.slice (some ⟨g, 0, none⟩) l.length cap) l.length (natL l)) (hl : l.length ≤ 9223372036854775807) : IntsAt B w (.slice (some ⟨g, 0, none⟩) l.length cap) (intsN l) := by
  obtain ⟨h1, h2, _, _⟩ := own_form h
  refine ⟨_, _, by rw [intsN_len], by rw [intsN_len]; exact hl, fun _ => ⟨g, 0, rfl, h1, h2, fun i hi => ?_⟩⟩
  rw [intsN_len] at hi
  rw [Nat.zero_add, h.cellAt i (by omega), natL_get l hi, intsN_get]

/-- The place of a number in a list, or -1. -/
def plF (xs : List Int) (x : Int) : Int := if xs.findIdx (· == x) < xs.length then (xs.findIdx (· == x) : Int) else -1
theorem plF_mem {xs : List Int} {x : Int} : 0 ≤ plF xs x ↔ x ∈ xs := by
  unfold plF
  have h : xs.findIdx (· == x) < xs.length ↔ x ∈ xs := by
    rw [List.findIdx_lt_length]
    exact ⟨fun ⟨y, h1, h2⟩ => (eq_of_beq h2) ▸ h1, fun h => ⟨x, h, by simp⟩⟩
  split
  · rename_i k; exact ⟨fun _ => h.1 k, fun _ => by omega⟩
  · rename_i k; exact ⟨fun e => by omega, fun e => absurd (h.2 e) k⟩
theorem plF_neg {xs : List Int} {x : Int} : plF xs x < 0 ↔ x ∉ xs := by
  rw [← plF_mem]; omega

set_option maxRecDepth 100000 in
set_option maxHeartbeats 400000 in
theorem l2Place_ok {lo : Nat} (v : Value) (xs : List Int) (x : Int) (w : World) (hs : IntsAt lo w v xs) :
    Calls Try.prog 16 #[v, .int .i64 x] w fun e w' => e = .returned (.int .i64 (plF xs x)) ∧ w' = w := by
  obtain ⟨ao, cap, rfl, hm, hc⟩ := hs
  go_enter Try.func16, Try.ntmps16
  go_wp2
  go_loopw [9] (fun i wr => ∃ k : Nat, k ≤ xs.length ∧ i = .int .i64 k ∧ wr = w ∧ Hid (∀ j, j < k → xs.getD j 0 ≠ x))
    (fun i _ => xs.length - (intOf i).toNat)
  case atStart => exact ⟨0, Nat.zero_le _, rfl, rfl, fun j hj => absurd hj (Nat.not_lt_zero _)⟩
  case round =>
    obtain ⟨k, hk, rfl, rfl, HN⟩ := hrel
    by_cases hlt : k < xs.length
    · obtain ⟨b, o, y, rfl, Hn, hbl, c0⟩ := hc.elem (Below.refl _ _) hlt
      have hi0 : (0 : Int) ≤ (k : Int) := by omega
      have hi1 : (k : Int) < (xs.length : Int) := by omega
      by_cases hxy : y = x
      · have hb : (y == x) = true := by simp [hxy]
        have HF : Hid (plF xs x = k) := by
          have e : xs.findIdx (· == x) = k := by
            rw [List.findIdx_eq hlt]
            have e1 : xs[k] = x := by have := Hn.out; rw [List.getD_eq_getElem?_getD, List.getElem?_eq_getElem hlt] at this; simpa [hxy] using this
            refine ⟨by simp [e1], fun j hj => ?_⟩
            have := HN.out j hj
            rw [List.getD_eq_getElem?_getD, List.getElem?_eq_getElem (by omega)] at this
            simpa using this
          show plF xs x = k
          unfold plF
          rw [e, if_pos hlt]
        go_wp2
        go_ret
        exact ⟨ret_int HF.out.symm, by first | rfl | trivial⟩
      · have hb : (y == x) = false := by simp [hxy]
        go_wp2
        go_roundw
        case rel => exact ⟨k + 1, by omega, by go_num, by first | rfl | trivial, fun j hj => by
          by_cases e : j = k
          · subst e; rw [Hn.out]; exact hxy
          · exact HN.out j (by omega)⟩
        case measure => simp [intOf]; omega
    · have HF : Hid (plF xs x = -1) := by
        have h1 : plF xs x < 0 := plF_neg.2 fun hmem => by
          obtain ⟨j, hj, e⟩ := List.mem_iff_getElem.1 hmem
          refine HN.out j (by omega) ?_
          rw [List.getD_eq_getElem?_getD, List.getElem?_eq_getElem hj]
          exact e
        show plF xs x = -1
        unfold plF at h1 ⊢
        split
        · rw [if_pos (by assumption)] at h1; omega
        · rfl
      go_wp2
      go_ret
      exact ⟨ret_int HF.out.symm, by first | rfl | trivial⟩
end Go.Proofs.Ytgbdlgogccgciaa
namespace Go.Proofs.Ytgbdlgogccgciaa
open Go.RowKit
attribute [local go_sem ↓] Go.wp_at_zero Go.wp_at_succ

/- THE AUTOMATON IN NUMBERS. -/
def wdN (d : DfaD) : Nat := d.width.toNat
def nxN (d : DfaD) (s c : Nat) : Nat := (d.next.getD (s * wdN d + c) 0).toNat
def clN (d : DfaD) (c : Nat) : Nat := (d.classes.getD c 0).toNat
def stN (d : DfaD) (s c : Nat) : Nat := nxN d s (clN d c)
def anN (d : DfaD) (s : Nat) : Int × Int := (d.tag.getD s 0, d.fin.getD s 0)
theorem DfaFine.wd {d : DfaD} (h : DfaFine d) : d.width = (wdN d : Int) ∧ 1 ≤ wdN d ∧ wdN d ≤ 256 := by have := h.w1; have := h.w2; unfold wdN; omega
theorem DfaFine.nlen {d : DfaD} (h : DfaFine d) : d.next.length = d.tag.length * wdN d := by
  have h1 := h.nl
  rw [h.wd.1] at h1
  exact_mod_cast h1
theorem DfaFine.nidx {d : DfaD} (h : DfaFine d) {s c : Nat} (hs : s < d.tag.length) (hc : c < wdN d) : s * wdN d + c < d.next.length := by
  rw [h.nlen]
  have := Nat.mul_le_mul_right (wdN d) (show s + 1 ≤ d.tag.length by omega)
  rw [Nat.add_mul, Nat.one_mul] at this
  omega
theorem DfaFine.nx {d : DfaD} (h : DfaFine d) {s c : Nat} (hs : s < d.tag.length) (hc : c < wdN d) : d.next.getD (s * wdN d + c) 0 = (nxN d s c : Int) ∧ nxN d s c < d.tag.length := by
  have k := allIn_at h.ns (k := s * wdN d + c) (h.nidx hs hc)
  have := h.n1
  unfold nxN
  omega
theorem DfaFine.clc {d : DfaD} (h : DfaFine d) {c : Nat} (hc : c < 256) : d.classes.getD c 0 = (clN d c : Int) ∧ clN d c < wdN d := by
  have k := allIn_at h.cs (k := c) (by have := h.cl; omega)
  have w := h.wd
  unfold clN
  omega
theorem DfaFine.stc {d : DfaD} (h : DfaFine d) {s c : Nat} (hs : s < d.tag.length) (hc : c < 256) : stN d s c < d.tag.length := (h.nx hs (h.clc hc).2).2
theorem nodup_le : ∀ (n : Nat) (l : List Nat), l.Nodup → (∀ x ∈ l, x < n) → l.length ≤ n
  | 0, l, _, h => by
    cases l with
    | nil => simp
    | cons a l => exact absurd (h a (by simp)) (Nat.not_lt_zero _)
  | n + 1, l, hn, h => by
    have h1 := nodup_le n (l.erase n) (hn.erase n) (fun x hx => by
      have h2 := h x (List.mem_of_mem_erase hx)
      have h3 : x ≠ n := fun e => by subst e; exact (List.Nodup.not_mem_erase hn) hx
      omega)
    by_cases hm : n ∈ l
    · rw [List.length_erase_of_mem hm] at h1; omega
    · rw [List.erase_of_not_mem hm] at h1; omega

/-- A list of states that holds 0 first and is closed. -/
structure RchD (d : DfaD) (l : List Nat) : Prop where
  pos : 0 < l.length
  head : l.getD 0 0 = 0
  nd : l.Nodup
  lt : ∀ x ∈ l, x < d.tag.length
  cl : ∀ x ∈ l, ∀ c, c < 256 → stN d x c ∈ l
/-- Where the walk over all states stands. -/
structure RchI (d : DfaD) (l : List Nat) (k c : Nat) : Prop where
  pos : 0 < l.length
  head : l.getD 0 0 = 0
  nd : l.Nodup
  lt : ∀ x ∈ l, x < d.tag.length
  done : ∀ j, j < k → ∀ i, i < wdN d → (i : Int) ∈ d.classes → nxN d (l.getD j 0) i ∈ l
  now : ∀ i, i < c → (i : Int) ∈ d.classes → nxN d (l.getD k 0) i ∈ l
theorem RchI.more {d : DfaD} {l : List Nat} {k c x : Nat} (h : RchI d l k c) (hk : k < l.length) (hx : x < d.tag.length) (hn : x ∉ l) (e : nxN d (l.getD k 0) c = x) : RchI d (l ++ [x]) k (c + 1) := by
  have hg : ∀ j, j < l.length → (l ++ [x]).getD j 0 = l.getD j 0 := fun j hj => getD_pre hj
  refine ⟨by simp, by rw [hg 0 h.pos]; exact h.head, ?_, fun y hy => ?_, fun j hj i hi hu => ?_, fun i hi hu => ?_⟩
  · rw [List.nodup_append]
    exact ⟨h.nd, by simp, fun a ha b hb => by simp at hb; subst hb; exact fun e => hn (e ▸ ha)⟩
  · rcases List.mem_append.1 hy with hy | hy
    · exact h.lt y hy
    · simp at hy; omega
  · rw [hg j (by omega)]; exact List.mem_append.2 (.inl (h.done j hj i hi hu))
  · rw [hg k hk]
    by_cases ei : i = c
    · subst ei; rw [e]; simp
    · exact List.mem_append.2 (.inl (h.now i (by omega) hu))
theorem RchI.skip {d : DfaD} {l : List Nat} {k c : Nat} (h : RchI d l k c) (hs : (c : Int) ∈ d.classes → nxN d (l.getD k 0) c ∈ l) : RchI d l k (c + 1) :=
  ⟨h.pos, h.head, h.nd, h.lt, h.done, fun i hi hu => by
    by_cases ei : i = c
    · subst ei; exact hs hu
    · exact h.now i (by omega) hu⟩
theorem RchI.row {d : DfaD} {l : List Nat} {k c : Nat} (h : RchI d l k c) (hc : wdN d ≤ c) : RchI d l (k + 1) 0 :=
  ⟨h.pos, h.head, h.nd, h.lt, fun j hj i hi hu => by
    by_cases ej : j = k
    · subst ej; exact h.now i (by omega) hu
    · exact h.done j (by omega) i hi hu, fun i hi => absurd hi (Nat.not_lt_zero _)⟩
theorem RchI.end {d : DfaD} {l : List Nat} {k : Nat} (hf : DfaFine d) (h : RchI d l k 0) (hk : l.length ≤ k) : RchD d l :=
  ⟨h.pos, h.head, h.nd, h.lt, fun x hx c hc => by
    obtain ⟨j, hj, e⟩ := List.mem_iff_getElem.1 hx
    have := h.done j (by omega) (clN d c) (hf.clc hc).2 (by
      rw [← (hf.clc hc).1, List.getD_eq_getElem?_getD, List.getElem?_eq_getElem (by have := hf.cl; omega)]
      exact List.getElem_mem _)
    rw [List.getD_eq_getElem?_getD, List.getElem?_eq_getElem hj] at this
    simp only [Option.getD_some, e] at this
    exact this⟩
theorem rch_start (d : DfaD) (hf : DfaFine d) : RchI d [0] 0 0 :=
  ⟨by simp, rfl, by simp, fun x hx => by simp at hx; have := hf.n1; omega, fun j hj => absurd hj (Nat.not_lt_zero _), fun i hi => absurd hi (Nat.not_lt_zero _)⟩

def ReR (w : World) (d : DfaD) (e : Ending) (w' : World) : Prop :=
  ∃ (g cap : Nat) (l : List Nat), e = .returned (.slice (some ⟨g, 0, none⟩) l.length cap) ∧ w'.ownsRow w.heap.size 3 1 (.slice (some ⟨g, 0, none⟩) l.length cap) l.length (natL l) ∧ RchD d l ∧ Below w.heap.size w w'
end Go.Proofs.Ytgbdlgogccgciaa
