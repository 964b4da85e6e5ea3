import Derived.Test.YtgbdlgogccgciaaGreatDoorWgtW
import Derived.Test.YtgbdlgogccgciaaGreatDoorPeW
import Derived.Deep.Cut
import Derived.Deep.CutRange
namespace Go.Proofs.YtgbdlgogccgciaaGreatDoor
open Go.RowKit

/-- Every branch works out. -/
def AllOK (bs : List BranchD) : Prop := ∀ i, i < bs.length → kidsB (bs.getD i .zero).nodes = true ∧ (bs.getD i .zero).nodes.all nodeB = true
def wLast (b : BranchD) : Int := wOf b.nodes (b.nodes.length - 1)
def ruleW : List BranchD → Int
  | [] => 0
  | b :: bs => wLast b + ruleW bs
theorem ruleW_take (bs : List BranchD) (k : Nat) (hk : k < bs.length) : ruleW (bs.take (k + 1)) = ruleW (bs.take k) + wLast (bs.getD k .zero) := by
  induction bs generalizing k with
  | nil => exact absurd hk (Nat.not_lt_zero _)
  | cons b bs ih =>
    cases k with
    | zero => simp [ruleW, List.getD]
    | succ k =>
      have := ih k (by simpa using hk)
      simp only [List.take_succ_cons, ruleW, List.getD_cons_succ] at this ⊢
      omega
theorem wLast_bd {b : BranchD} (hk : kidsB b.nodes = true) (har : ∀ i, i < b.nodes.length → arity (kindAt b.nodes i) ≤ (stk b.nodes i).length) (hb : b.nodes.all nodeB = true) : 1 ≤ wLast b ∧ wLast b ≤ 2001 := by
  obtain ⟨hp, _⟩ := liftF_ok b.nodes hk har hb
  exact wOf_bd b.nodes har hb (b.nodes.length) (b.nodes.length - 1) (by omega) (by omega)

/-- Where the order works out, no node lacks its parts. -/
theorem kidsD_ar : ∀ (ns pre : List NodeD) (d : Nat), kidsD ns (stk (pre ++ ns) pre.length).length = some d → ∀ i, pre.length ≤ i → i < pre.length + ns.length → arity (kindAt (pre ++ ns) i) ≤ (stk (pre ++ ns) i).length
  | [], pre, _, _, i, h1, h2 => by simp at h2; omega
  | n :: ns, pre, d, h, i, h1, h2 => by
    have hkind : kindAt (pre ++ n :: ns) pre.length = n.kind := by simp [kindAt, List.getD_eq_getElem?_getD]
    unfold kidsD at h
    by_cases hc : (stk (pre ++ n :: ns) pre.length).length < arity n.kind
    · rw [if_pos hc] at h; cases h
    · rw [if_neg hc] at h
      by_cases e : i = pre.length
      · subst e; rw [hkind]; omega
      · have e1 : pre ++ n :: ns = (pre ++ [n]) ++ ns := by simp
        have hl := stk_len (pre ++ n :: ns) pre.length
        rw [hkind] at hl
        rw [← hl] at h
        have := kidsD_ar ns (pre ++ [n]) d (by rw [← e1]; simpa using h) i (by simp; omega) (by simp at h2 ⊢; omega)
        rwa [← e1] at this
theorem kidsB_ar {ns : List NodeD} (h : kidsB ns = true) : ∀ i, i < ns.length → arity (kindAt ns i) ≤ (stk ns i).length := by
  intro i hi
  unfold kidsB at h
  exact kidsD_ar ns [] 1 (eq_of_beq h) i (Nat.zero_le _) (by simpa using hi)

theorem ruleW_bd {bs : List BranchD} (h : AllOK bs) : ∀ k, k ≤ bs.length → 0 ≤ ruleW (bs.take k) ∧ ruleW (bs.take k) ≤ k * 2001
  | 0, _ => by simp [ruleW]
  | k + 1, hk => by
    have h1 := ruleW_bd h k (by omega)
    obtain ⟨h2, h3⟩ := h k (by omega)
    have h4 := wLast_bd h2 (kidsB_ar h2) h3
    rw [ruleW_take bs k (by omega)]
    omega

set_option maxRecDepth 100000 in
set_option maxHeartbeats 1000000 in
theorem ruleWeight_ok {lo : Nat} (G : Int) (v : Value) (bs : List BranchD) (w : World) (hs : BranchesAt lo w v bs) (hsm : Small bs) (hok : AllOK bs) :
    Calls Tryz.prog 16 #[.agg #[v, .int .i64 G]] w fun e w' => e = .returned (.int .i64 (ruleW bs)) ∧ Below w.heap.size w w' := by
  obtain ⟨ao, cap, rfl, hm, hc⟩ := hs
  have hn := hsm.1
  have Hok : Hid _ := hok
  clear hok
  go_enter Tryz.func16, Tryz.ntmps16
  go_wp2
  go_loopw [3, 9] (fun s i wr => ∃ k : Nat, k ≤ bs.length ∧ i = .int .i64 k ∧ s = .int .i64 (ruleW (bs.take k)) ∧ Below w.heap.size w wr)
    (fun _ i _ => bs.length - (intOf i).toNat)
  case atStart => exact ⟨0, Nat.zero_le _, rfl, rfl, (Below.refl _ _).alloc (Nat.le_refl _) _⟩
  case round =>
    obtain ⟨k, hk, rfl, rfl, hb⟩ := hrel
    have hrb := ruleW_bd Hok.out k hk
    by_cases hlt : k < bs.length
    · obtain ⟨b, o, nv, bd, rfl, Hn, hbl, c0, c1, c2, hnv⟩ := hc.elem hb hlt
      have hnl : bd.nodes.length ≤ 1048576 := by have := (hsm.2 k hlt).1; rw [Hn.out] at this; exact this
      have hkb : kidsB bd.nodes = true := by have := (Hok.out k hlt).1; rw [Hn.out] at this; exact this
      have hab : bd.nodes.all nodeB = true := by have := (Hok.out k hlt).2; rw [Hn.out] at this; exact this
      have hwl := wLast_bd hkb (kidsB_ar hkb) hab
      obtain ⟨nao, ncp, rfl, hnm, hnc⟩ := hnv
      have hba : Below w.heap.size w (wr.alloc (.cells #[.bool bd.bol, .bool bd.eol, .slice nao bd.nodes.length ncp] 43)) := hb.alloc hb.size _
      have hnva : NodesAt lo (wr.alloc (.cells #[.bool bd.bol, .bool bd.eol, .slice nao bd.nodes.length ncp] 43)) (.slice nao bd.nodes.length ncp) bd.nodes := NodesAt.below ⟨_, _, rfl, hnm, hnc⟩ ((Below.refl _ _).alloc (Nat.le_refl _) _)
      have HT : Hid _ := ruleW_take bs k hlt
      rw [Hn.out] at HT
      generalize ruleW (bs.take k) = s at *
      have HL : Hid (wOf bd.nodes (bd.nodes.length - 1) = wLast bd) := rfl
      go_wp2_with fail
      refine (weight_ok _ bd.nodes _ hnva hnl hkb hab).mono ?_
      rintro e w2 ⟨rfl, hb2⟩
      rw [HL.out]
      clear hkb hab
      generalize wLast bd = wl at *
      have hwr : IntKind.i64.wrap (s + wl) = s + wl := by rw [IntKind.wrap_i64]; omega
      go_wp2
      go_roundw
      case rel => exact ⟨k + 1, by omega, by go_num, by rw [HT.out], below_step hba hba.size hb2⟩
      case measure => simp [intOf]; omega
    · go_wp2
      go_ret
      exact ⟨ret_int (by rw [List.take_of_length_le (by omega)]), hb⟩
end Go.Proofs.YtgbdlgogccgciaaGreatDoor
namespace Go.Proofs.YtgbdlgogccgciaaGreatDoor
open Go.RowKit

/- WHAT THE GRAMMAR WRITES IS WELL FORMED (plain mathematics). -/
theorem kidsD_app : ∀ (a b : List NodeD) (d e : Nat), kidsD a d = some e → kidsD (a ++ b) d = kidsD b e
  | [], b, d, e, h => by cases h; rfl
  | n :: a, b, d, e, h => by
    show (if d < arity n.kind then none else kidsD (a ++ b) (d - arity n.kind + 1)) = _
    unfold kidsD at h
    split at h
    · cases h
    · rename_i hn
      rw [if_neg hn]
      exact kidsD_app a b _ _ h
theorem kidsD_two (n : NodeD) (hn : arity n.kind = 2) : ∀ (m d : Nat), kidsD (List.replicate m n) (d + m + 1) = some (d + 1)
  | 0, d => rfl
  | m + 1, d => by
    rw [List.replicate_succ]
    show (if d + (m + 1) + 1 < arity n.kind then none else kidsD (List.replicate m n) (d + (m + 1) + 1 - arity n.kind + 1)) = _
    rw [hn, if_neg (by omega), show d + (m + 1) + 1 - 2 + 1 = d + m + 1 by omega, kidsD_two n hn m d]
theorem gr_kids {s g n g' : Nat} {l : List Tok} {ns : List NodeD} (h : Gr s g l n ns g') : ∀ d, kidsD ns d = some (d + (if s < 2 then 1 else n)) := by
  induction h with
  | atom hk => intro d; rfl
  | @grp g g' n o c l ns ho _ hc ih =>
    intro d
    rw [if_pos (by omega)]
    have h1 := ih d
    rw [if_neg (by omega)] at h1
    have h2 := kidsD_app ns (List.replicate n altN) d _ h1
    rw [show d + (n + 1) = d + n + 1 by omega, kidsD_two altN rfl n d] at h2
    rw [kidsD_app _ _ d _ h2]
    show (if d + 1 < arity 5 then none else kidsD [] (d + 1 - arity 5 + 1)) = _
    rw [show arity 5 = 1 from rfl, if_neg (by omega)]
    rfl
  | bare _ ih => intro d; exact ih d
  | rep _ hr ih =>
    intro d
    have h1 := ih d
    rw [if_pos (by omega)] at h1 ⊢
    rw [kidsD_app _ _ d _ h1]
    show (if d + 1 < arity 4 then none else kidsD [] (d + 1 - arity 4 + 1)) = _
    rw [show arity 4 = 1 from rfl, if_neg (by omega)]
    rfl
  | one _ ih => intro d; exact ih d
  | @more g g1 g2 n l m ns ms _ _ ih1 ih2 =>
    intro d
    have h1 := ih1 d
    rw [if_pos (by omega)] at h1
    rw [kidsD_app _ _ d _ h1, ih2 (d + 1), if_neg (by omega), if_neg (by omega)]
    congr 1
    omega
  | @alt g g' n l ns _ ih =>
    intro d
    have h1 := ih d
    rw [if_neg (by omega)] at h1 ⊢
    rw [kidsD_app _ _ d _ h1, show d + (n + 1) = d + n + 1 by omega, kidsD_two seqN rfl n d]
  | @alts g g1 g2 n k l m b ns ms _ hb _ ih1 ih2 =>
    intro d
    have h1 := ih1 d
    rw [if_neg (by omega)] at h1 ⊢
    have h2 := kidsD_app ns (List.replicate n seqN) d _ h1
    rw [show d + (n + 1) = d + n + 1 by omega, kidsD_two seqN rfl n d] at h2
    rw [kidsD_app _ _ d _ h2, ih2 (d + 1), if_neg (by omega)]
    congr 1
    omega
/-- The ranges of a set are in order. -/
def rgEnd (l : List (Int × Int)) : Int := (l.getLast?.map (·.2)).getD (-2)
theorem rangesOK_snoc : ∀ (l : List (Int × Int)) (least a b : Int), rangesOK least l = true → (l = [] → least ≤ a) → (l ≠ [] → rgEnd l + 2 ≤ a) → a ≤ b → b ≤ 255 → rangesOK least (l ++ [(a, b)]) = true
  | [], least, a, b, _, h1, _, h3, h4 => by
    show (if a < least ∨ b < a ∨ 255 < b then false else true) = true
    have := h1 rfl
    rw [if_neg (by omega)]
  | (x, y) :: l, least, a, b, h, _, h2, h3, h4 => by
    show (if x < least ∨ y < x ∨ 255 < y then false else rangesOK (y + 2) (l ++ [(a, b)])) = true
    unfold rangesOK at h
    split at h
    · cases h
    · rename_i hn
      rw [if_neg hn]
      refine rangesOK_snoc l (y + 2) a b h (fun e => ?_) (fun e => ?_) h3 h4
      · subst e
        have := h2 (by simp)
        simpa [rgEnd] using this
      · have := h2 (by simp)
        cases l with
        | nil => exact absurd rfl e
        | cons c l => simpa [rgEnd, List.getLast?_cons_cons] using this
theorem rangesOK_hi : ∀ (l : List (Int × Int)) (least a b c : Int), rangesOK least (l ++ [(a, b)]) = true → b ≤ c → c ≤ 255 → rangesOK least (l ++ [(a, c)]) = true
  | [], least, a, b, c, h, h1, h2 => by
    have h : (if a < least ∨ b < a ∨ 255 < b then false else true) = true := h
    show (if a < least ∨ c < a ∨ 255 < c then false else true) = true
    split at h
    · cases h
    · rw [if_neg (by omega)]
  | (x, y) :: l, least, a, b, c, h, h1, h2 => by
    have h : (if x < least ∨ y < x ∨ 255 < y then false else rangesOK (y + 2) (l ++ [(a, b)])) = true := h
    show (if x < least ∨ y < x ∨ 255 < y then false else rangesOK (y + 2) (l ++ [(a, c)])) = true
    split at h
    · cases h
    · rename_i hn
      rw [if_neg hn]
      exact rangesOK_hi l (y + 2) a b c h h1 h2
theorem rgEnd_snoc (l : List (Int × Int)) (a b : Int) : rgEnd (l ++ [(a, b)]) = b := by simp [rgEnd]
theorem rngF_ok (f : Nat → Bool) : ∀ c, c ≤ 256 → rangesOK 0 (rngF f c) = true ∧ (rngF f c ≠ [] → rgEnd (rngF f c) < c ∧ ((0 < c ∧ f (c - 1) = true) ∨ rgEnd (rngF f c) + 1 < c))
  | 0, _ => ⟨rfl, fun h => absurd rfl h⟩
  | c + 1, hc => by
    obtain ⟨h1, h2⟩ := rngF_ok f c (by omega)
    cases hf : f c with
    | false =>
      rw [rngF_no hf]
      refine ⟨h1, fun h => ?_⟩
      have := h2 h
      omega
    | true =>
      by_cases hp : 0 < c ∧ f (c - 1) = true
      · obtain ⟨l, a, hl⟩ := rngF_last f (c - 1) hp.2
        rw [show c - 1 + 1 = c by omega] at hl
        rw [rngF_on hf hp hl]
        rw [hl] at h1
        refine ⟨rangesOK_hi l 0 a _ _ h1 (by omega) (by omega), fun _ => ?_⟩
        rw [rgEnd_snoc, show c + 1 - 1 = c by omega]
        exact ⟨by omega, .inl ⟨by omega, hf⟩⟩
      · rw [rngF_new hf hp]
        refine ⟨rangesOK_snoc _ 0 _ _ h1 (fun _ => by omega) (fun e => ?_) (Int.le_refl _) (by omega), fun _ => ?_⟩
        · have := (h2 e).2
          rcases this with h | h
          · exact absurd h hp
          · omega
        · rw [rgEnd_snoc, show c + 1 - 1 = c by omega]
          exact ⟨by omega, .inl ⟨by omega, hf⟩⟩
/-- Postfix tokens have bounds. -/
def TokB (x : Tok) : Prop := x.kind = 4 → boundsB x.mn x.mx = true
theorem nodeB_set (f : Nat → Bool) : nodeB (setN f) = true := by simp [nodeB, setN, (rngF_ok f 256 (Nat.le_refl _)).1]
theorem all_rep {p : NodeD → Bool} {n : NodeD} (h : p n = true) (m : Nat) : (List.replicate m n).all p = true := by simp [List.all_replicate, h]
theorem gr_ok {s g n g' : Nat} {l : List Tok} {ns : List NodeD} (h : Gr s g l n ns g') (ht : ∀ x ∈ l, TokB x) : ns.all nodeB = true := by
  induction h with
  | atom hk => simp [nodeB_set]
  | grp ho _ hc ih =>
    rw [List.all_append, List.all_append, ih fun x hx => ht x (by simp [hx]), all_rep (by decide)]
    simp [nodeB, grpN]
  | bare _ ih => exact ih ht
  | rep _ hr ih =>
    rw [List.all_append, ih fun x hx => ht x (by simp [hx])]
    have := ht _ (by simp) hr
    simp [nodeB, repN, this]
  | one _ ih => exact ih ht
  | more _ _ ih1 ih2 => rw [List.all_append, ih1 fun x hx => ht x (by simp [hx]), ih2 fun x hx => ht x (by simp [hx])]; rfl
  | alt _ ih => rw [List.all_append, ih ht, all_rep (by decide)]; rfl
  | alts _ hb _ ih1 ih2 => rw [List.all_append, List.all_append, ih1 fun x hx => ht x (by simp [hx]), all_rep (by decide), ih2 fun x hx => ht x (by simp [hx])]; rfl
theorem gr_set {s g n g' : Nat} {l : List Tok} {ns : List NodeD} (h : Gr s g l n ns g') : ∀ x ∈ ns, x.set.length ≤ 256 := by
  induction h with
  | atom hk => intro x hx; simp at hx; subst hx; exact rngF_len _ 256
  | grp ho _ hc ih =>
    intro x hx
    simp only [List.mem_append, List.mem_replicate, List.mem_singleton] at hx
    rcases hx with (hx | ⟨_, rfl⟩) | rfl
    · exact ih x hx
    · simp [altN]
    · simp [grpN]
  | bare _ ih => exact ih
  | rep _ hr ih =>
    intro x hx
    simp only [List.mem_append, List.mem_singleton] at hx
    rcases hx with hx | rfl
    · exact ih x hx
    · simp [repN]
  | one _ ih => exact ih
  | more _ _ ih1 ih2 => intro x hx; rcases List.mem_append.1 hx with h | h; exact ih1 x h; exact ih2 x h
  | alt _ ih =>
    intro x hx
    simp only [List.mem_append, List.mem_replicate] at hx
    rcases hx with hx | ⟨_, rfl⟩
    · exact ih x hx
    · simp [seqN]
  | alts _ hb _ ih1 ih2 =>
    intro x hx
    simp only [List.mem_append, List.mem_replicate] at hx
    rcases hx with (hx | ⟨_, rfl⟩) | hx
    · exact ih1 x hx
    · simp [seqN]
    · exact ih2 x hx
/-- A branch's tokens: its anchors, its factors. -/
theorem br_of {g g' : Nat} {l : List Tok} {b : BranchD} (h : Br g l b g') : ∃ t, AltI g t b.nodes g' ∧ ((b.bol = false ∧ b.eol = false ∧ l = t) ∨ (∃ x : Tok, x.kind = 5 ∧ b.bol = true ∧ b.eol = false ∧ l = x :: t) ∨ (∃ y : Tok, y.kind = 6 ∧ b.bol = false ∧ b.eol = true ∧ l = t ++ [y]) ∨ ∃ x y : Tok, x.kind = 5 ∧ y.kind = 6 ∧ b.bol = true ∧ b.eol = true ∧ l = x :: (t ++ [y])) := by
  cases h with
  | none h => exact ⟨_, ⟨_, _, h, rfl⟩, .inl ⟨rfl, rfl, rfl⟩⟩
  | bol hx h => exact ⟨_, ⟨_, _, h, rfl⟩, .inr (.inl ⟨_, hx, rfl, rfl, rfl⟩)⟩
  | eol hy h => exact ⟨_, ⟨_, _, h, rfl⟩, .inr (.inr (.inl ⟨_, hy, rfl, rfl, rfl⟩))⟩
  | both hx hy h => exact ⟨_, ⟨_, _, h, rfl⟩, .inr (.inr (.inr ⟨_, _, hx, hy, rfl, rfl, rfl⟩))⟩
theorem AltI.ok {g g' : Nat} {t : List Tok} {N : List NodeD} (h : AltI g t N g') (ht : ∀ x ∈ t, TokB x) : kidsB N = true ∧ N.all nodeB = true ∧ N.length ≤ 2 * t.length ∧ 0 < N.length ∧ ∀ x ∈ N, x.set.length ≤ 256 := by
  obtain ⟨n, ns, hG, rfl⟩ := h
  have h3 := Gr.alt hG
  have h1 := gr_kids h3 0
  rw [if_neg (by omega)] at h1
  have h2 := (gr_len h3).2 (by omega)
  exact ⟨by unfold kidsB; rw [h1]; rfl, gr_ok h3 ht, by omega, gr_nodes h3, gr_set h3⟩
theorem br_even {g g' : Nat} {l : List Tok} {b : BranchD} (h : Br g l b g') : NoBar l ∧ Even l ∧ l ≠ [] ∧ g' = g + numN l l.length := by
  obtain ⟨t, ⟨n, ns, hG, _⟩, h⟩ := br_of h
  have e1 := gr_bar hG (by omega)
  have e2 := gr_even hG
  have e3 := gr_num hG
  have ox : ∀ x : Tok, x.kind = 5 ∨ x.kind = 6 → NoBar [x] ∧ Even [x] ∧ numN [x] [x].length = 0 := fun x hx => ⟨.one (by omega), .one (by omega) (by omega), by rw [show [x].length = 1 from rfl, numN_one, if_neg (by omega)]⟩
  rcases h with ⟨_, _, rfl⟩ | ⟨x, hx, _, _, rfl⟩ | ⟨y, hy, _, _, rfl⟩ | ⟨x, y, hx, hy, _, _, rfl⟩
  · exact ⟨e1, e2, gr_ne hG, e3⟩
  · obtain ⟨a, b, c⟩ := ox x (.inl hx)
    refine ⟨a.app b e1, Even.app b e2, by simp, ?_⟩
    rw [show x :: t = [x] ++ t from rfl, numN_app3]; omega
  · obtain ⟨a, b, c⟩ := ox y (.inr hy)
    refine ⟨e1.app e2 a, e2.app b, by simp, ?_⟩
    rw [numN_app3]; omega
  · obtain ⟨a, b, c⟩ := ox x (.inl hx)
    obtain ⟨a2, b2, c2⟩ := ox y (.inr hy)
    refine ⟨a.app b (e1.app e2 a2), Even.app b (e2.app b2), by simp, ?_⟩
    rw [show x :: (t ++ [y]) = [x] ++ (t ++ [y]) from rfl, numN_app3, numN_app3]; omega
/-- The branches as lists. -/
theorem rl_bj {g g' : Nat} {l : List Tok} {bs : List BranchD} (h : Rl g l bs g') : ∃ ts, Bj l ts ∧ ts.length = bs.length ∧ (∀ t ∈ ts, NoBar t ∧ Even t ∧ t ≠ []) ∧ 0 < bs.length ∧ bs.length ≤ l.length ∧ g' = g + numN l l.length ∧
    ∀ k, k < bs.length → ∃ a t c, l = a ++ (t ++ c) ∧ (posL 0 ts).getD k (0, 0) = (a.length, a.length + t.length) ∧ ∃ g2, Br (g + numN a a.length) t (bs.getD k .zero) g2 := by
  induction h with
  | @one g g' l b h =>
    obtain ⟨e1, e2, e3, e4⟩ := br_even h
    refine ⟨[l], .one l, rfl, fun t ht => by simp at ht; subst ht; exact ⟨e1, e2, e3⟩, by simp, by simp; exact List.length_pos_iff.2 e3, e4, fun k hk => ?_⟩
    have : k = 0 := by simpa using hk
    subst this
    exact ⟨[], l, [], by simp, by simp [posL], g', by simpa [numN] using h⟩
  | @more g g1 g2 l m b x bs h hx _ ih =>
    obtain ⟨ts, i1, i2, i3, i4, i5, i6, i7⟩ := ih
    obtain ⟨e1, e2, e3, e4⟩ := br_even h
    refine ⟨l :: ts, .more hx i1, by simp [i2], fun t ht => ?_, by simp, by simp; omega, ?_, fun k hk => ?_⟩
    · simp at ht
      rcases ht with rfl | ht
      · exact ⟨e1, e2, e3⟩
      · exact i3 t ht
    · rw [show l ++ x :: m = l ++ ([x] ++ m) from rfl, numN_app3, numN_app3, show [x].length = 1 from rfl, numN_one, if_neg (by omega)]; omega
    · cases k with
      | zero => exact ⟨[], l, x :: m, by simp, by simp [posL], g1, by simpa [numN] using h⟩
      | succ k =>
        obtain ⟨a, t, c, j1, j2, g3, j3⟩ := i7 k (by simpa using hk)
        refine ⟨l ++ x :: a, t, c, by rw [j1]; simp, ?_, g3, ?_⟩
        · show (posL (0 + l.length + 1) ts).getD k (0, 0) = _
          rw [Nat.zero_add, show posL (l.length + 1) ts = posL (l.length + 1 + 0) ts from rfl, posL_shift]
          have hkl : k < (posL 0 ts).length := by rw [posL_len, i2]; simpa using hk
          rw [List.getD_eq_getElem?_getD, List.getElem?_eq_getElem hkl] at j2
          rw [List.getD_eq_getElem?_getD, List.getElem?_map, List.getElem?_eq_getElem hkl]
          have j2 : (posL 0 ts)[k] = (a.length, a.length + t.length) := j2
          rw [j2]
          simp [shP]
          omega
        · have : g + numN (l ++ x :: a) (l ++ x :: a).length = g1 + numN a a.length := by
            rw [show l ++ x :: a = l ++ ([x] ++ a) from rfl, numN_app3, numN_app3, show [x].length = 1 from rfl, numN_one, if_neg (by omega)]
            omega
          rw [this]
          exact j3
theorem nget_mem {l : List NodeD} {j : Nat} (h : j < l.length) : l.getD j .zero ∈ l := by
  rw [List.getD_eq_getElem?_getD, List.getElem?_eq_getElem h]
  exact List.getElem_mem _
theorem rl_all {g g' : Nat} {l : List Tok} {bs : List BranchD} (h : Rl g l bs g') (ht : ∀ x ∈ l, TokB x) (hl : l.length ≤ 2000) : AllOK bs ∧ Small bs := by
  obtain ⟨ts, _, _, _, _, h5, _, h7⟩ := rl_bj h
  have key : ∀ k, k < bs.length → kidsB (bs.getD k .zero).nodes = true ∧ (bs.getD k .zero).nodes.all nodeB = true ∧ (bs.getD k .zero).nodes.length ≤ 4000 ∧ ∀ x ∈ (bs.getD k .zero).nodes, x.set.length ≤ 256 := by
    intro k hk
    obtain ⟨a, t, c, e, _, g2, hB⟩ := h7 k hk
    obtain ⟨u, hA, hu⟩ := br_of hB
    have hut : ∀ x ∈ u, TokB x := by
      intro x hx
      refine ht x ?_
      rw [e]
      rcases hu with ⟨_, _, rfl⟩ | ⟨x, hx, _, _, rfl⟩ | ⟨y, hy, _, _, rfl⟩ | ⟨x, y, hx, hy, _, _, rfl⟩ <;> simp_all
    have hul : u.length ≤ 2000 := by
      have h1 := congrArg List.length e
      simp at h1
      rcases hu with ⟨_, _, rfl⟩ | ⟨x, hx, _, _, rfl⟩ | ⟨y, hy, _, _, rfl⟩ | ⟨x, y, hx, hy, _, _, rfl⟩ <;> (try simp at h1) <;> omega
    obtain ⟨a1, a2, a3, _, a5⟩ := hA.ok hut
    exact ⟨a1, a2, by omega, a5⟩
  refine ⟨fun k hk => ⟨(key k hk).1, (key k hk).2.1⟩, by omega, fun k hk => ⟨by have := (key k hk).2.2.1; omega, fun j hj => ?_⟩⟩
  have := (key k hk).2.2.2 _ (nget_mem hj)
  omega
end Go.Proofs.YtgbdlgogccgciaaGreatDoor
namespace Go.Proofs.YtgbdlgogccgciaaGreatDoor
open Go.RowKit
attribute [local go_sem ↓] Go.wp_at_zero Go.wp_at_succ

/- WHAT PARSING ANSWERS: one table for both sides. -/
theorem intervalF_ok {l : List UInt8} {m n : Int} {k : Nat} (h : intervalF l = some (m, n, k)) : boundsB m n = true := by
  unfold intervalF at h
  split at h
  · cases h
  · split at h
    · split at h
      · cases h
      · rename_i a ha
        cases h
        have := countF_bd ha
        simp [boundsB]; omega
    · split at h
      · cases h
      · rename_i a ha
        have h1 := countF_bd ha
        split at h
        · cases h; simp [boundsB]; omega
        · split at h
          · cases h
          · rename_i b hb
            have h2 := countF_bd hb
            split at h
            · cases h; simp [boundsB]; omega
            · cases h
theorem tokF_ok {s : List UInt8} {i j : Nat} {x : Tok} (h : tokF s i = .inr (x, j)) : TokB x := by
  intro hk
  unfold tokF at h
  by_cases c94 : atL s i = 94
  · rw [if_pos c94] at h; cases h; simp at hk
  rw [if_neg c94] at h
  by_cases c36 : atL s i = 36
  · rw [if_pos c36] at h; cases h; simp at hk
  rw [if_neg c36] at h
  by_cases c40 : atL s i = 40
  · rw [if_pos c40] at h; cases h; simp at hk
  rw [if_neg c40] at h
  by_cases c41 : atL s i = 41
  · rw [if_pos c41] at h; cases h; simp at hk
  rw [if_neg c41] at h
  by_cases c124 : atL s i = 124
  · rw [if_pos c124] at h; cases h; simp at hk
  rw [if_neg c124] at h
  by_cases c42 : atL s i = 42
  · rw [if_pos c42] at h; cases h; rfl
  rw [if_neg c42] at h
  by_cases c43 : atL s i = 43
  · rw [if_pos c43] at h; cases h; rfl
  rw [if_neg c43] at h
  by_cases c63 : atL s i = 63
  · rw [if_pos c63] at h; cases h; rfl
  rw [if_neg c63] at h
  by_cases c123 : atL s i = 123
  · rw [if_pos c123] at h
    cases hf : intervalF (s.drop (i + 1)) with
    | none => rw [hf] at h; cases h
    | some q => obtain ⟨m, n, k⟩ := q; rw [hf] at h; cases h; exact intervalF_ok hf
  rw [if_neg c123] at h
  by_cases c91 : atL s i = 91
  · rw [if_pos c91] at h
    cases hf : bracketF (s.drop (i + 1)) with
    | none => rw [hf] at h; cases h
    | some q => rw [hf] at h; cases h; simp at hk
  rw [if_neg c91] at h
  by_cases c46 : atL s i = 46
  · rw [if_pos c46] at h; cases h; simp at hk
  rw [if_neg c46] at h
  by_cases c92 : atL s i = 92
  · rw [if_pos c92] at h
    cases hf : specialB (atL s (i + 1)) with
    | false => rw [hf, if_neg (by decide)] at h; cases h
    | true => rw [hf, if_pos rfl] at h; cases h; simp at hk
  rw [if_neg c92] at h
  cases h
  simp at hk
theorem tokF_code {s : List UInt8} {i : Nat} {c : Int} (h : tokF s i = .inl c) : c = 2 ∨ c = 3 ∨ c = 4 := by
  unfold tokF at h
  by_cases c94 : atL s i = 94
  · rw [if_pos c94] at h; cases h
  rw [if_neg c94] at h
  by_cases c36 : atL s i = 36
  · rw [if_pos c36] at h; cases h
  rw [if_neg c36] at h
  by_cases c40 : atL s i = 40
  · rw [if_pos c40] at h; cases h
  rw [if_neg c40] at h
  by_cases c41 : atL s i = 41
  · rw [if_pos c41] at h; cases h
  rw [if_neg c41] at h
  by_cases c124 : atL s i = 124
  · rw [if_pos c124] at h; cases h
  rw [if_neg c124] at h
  by_cases c42 : atL s i = 42
  · rw [if_pos c42] at h; cases h
  rw [if_neg c42] at h
  by_cases c43 : atL s i = 43
  · rw [if_pos c43] at h; cases h
  rw [if_neg c43] at h
  by_cases c63 : atL s i = 63
  · rw [if_pos c63] at h; cases h
  rw [if_neg c63] at h
  by_cases c123 : atL s i = 123
  · rw [if_pos c123] at h
    cases hf : intervalF (s.drop (i + 1)) with
    | none => rw [hf] at h; cases h; omega
    | some q => rw [hf] at h; cases h
  rw [if_neg c123] at h
  by_cases c91 : atL s i = 91
  · rw [if_pos c91] at h
    cases hf : bracketF (s.drop (i + 1)) with
    | none => rw [hf] at h; cases h; omega
    | some q => rw [hf] at h; cases h
  rw [if_neg c91] at h
  by_cases c46 : atL s i = 46
  · rw [if_pos c46] at h; cases h
  rw [if_neg c46] at h
  by_cases c92 : atL s i = 92
  · rw [if_pos c92] at h
    cases hf : specialB (atL s (i + 1)) with
    | false => rw [hf, if_neg (by decide)] at h; cases h; omega
    | true => rw [hf, if_pos rfl] at h; cases h
  rw [if_neg c92] at h
  cases h
/-- All tokens are of the seven kinds and have bounds; there are no more than bytes. -/
theorem lexF_ok (s : List UInt8) : ∀ (M i : Nat) (l : List Tok), s.length - i ≤ M → (∀ x ∈ l, TokB x ∧ x.kind < 7) → l.length ≤ i → l.length ≤ s.length → (∀ x ∈ (lexF s i l).1, TokB x ∧ x.kind < 7) ∧ (lexF s i l).1.length ≤ s.length ∧ ((lexF s i l).2.1 = 0 → (lexF s i l).2.2 = 0)
  | M, i, l, hM, h, hl, hl2 => by
    by_cases hi : i < s.length
    · cases ht : tokF s i with
      | inl c =>
        rw [lexF_bad hi ht]
        refine ⟨h, hl2, fun e => ?_⟩
        have hc := tokF_code ht
        have e : c = 0 := e
        omega
      | inr q =>
        obtain ⟨x, j⟩ := q
        rw [lexF_one hi ht]
        have h2 := tokF_next ht
        match M, hM with
        | 0, hM => omega
        | M + 1, hM =>
          refine lexF_ok s M j (l ++ [x]) (by omega) (fun y hy => ?_) (by simp; omega) (by simp; omega)
          rcases List.mem_append.1 hy with hy | hy
          · exact h y hy
          · simp at hy; subst hy; exact ⟨tokF_ok ht, h2.2.1⟩
    · rw [lexF_end hi]
      exact ⟨h, hl2, fun _ => rfl⟩
def RuleD.zero : RuleD := ⟨[], 0⟩
inductive ParseR (s : List UInt8) : RuleD → Int → Int → Prop
  | long : 2000 < s.length → ParseR s .zero 1 2000
  | lex {l : List Tok} {c : Int} {i : Nat} : s.length ≤ 2000 → lexF s 0 [] = (l, c, i) → c ≠ 0 → ParseR s .zero c (i : Int)
  | fault {l : List Tok} {k : Nat} : s.length ≤ 2000 → lexF s 0 [] = (l, 0, 0) → k < l.length → (∀ j, j < k → faultF l j = 0) → faultF l k ≠ 0 → ParseR s .zero (faultF l k) ((l.getD k tokZ).pos : Int)
  | op {l : List Tok} : s.length ≤ 2000 → lexF s 0 [] = (l, 0, 0) → (∀ j, j < l.length → faultF l j = 0) → opens (prevK l l.length) → ParseR s .zero 6 (s.length : Int)
  | opn {l : List Tok} : s.length ≤ 2000 → lexF s 0 [] = (l, 0, 0) → (∀ j, j < l.length → faultF l j = 0) → ¬opens (prevK l l.length) → 0 < depI l l.length → ParseR s .zero 8 ((l.getD ((stkN l l.length).getD ((stkN l l.length).length - 1) 0) tokZ).pos : Int)
  | heavy {l : List Tok} {bs : List BranchD} {g : Nat} : s.length ≤ 2000 → lexF s 0 [] = (l, 0, 0) → (∀ j, j < l.length → faultF l j = 0) → ¬opens (prevK l l.length) → depI l l.length = 0 → Rl 0 l bs g → 2000 < ruleW bs → ParseR s .zero 10 0
  | good {l : List Tok} {bs : List BranchD} {g : Nat} : s.length ≤ 2000 → lexF s 0 [] = (l, 0, 0) → (∀ j, j < l.length → faultF l j = 0) → ¬opens (prevK l l.length) → depI l l.length = 0 → Rl 0 l bs g → ruleW bs ≤ 2000 → ParseR s ⟨bs, (g : Int)⟩ 0 0
theorem first_fault (l : List Tok) : ∀ n, (∀ j, j < n → faultF l j = 0) ∨ ∃ k, k < n ∧ (∀ j, j < k → faultF l j = 0) ∧ faultF l k ≠ 0
  | 0 => .inl fun j h => absurd h (by omega)
  | n + 1 => by
    rcases first_fault l n with h | ⟨k, h1, h2, h3⟩
    · by_cases e : faultF l n = 0
      · left
        intro j hj
        by_cases e2 : j = n
        · subst e2; exact e
        · exact h j (by omega)
      · exact .inr ⟨n, by omega, h, e⟩
    · exact .inr ⟨k, by omega, h2, h3⟩
theorem parse_some (s : List UInt8) : ∃ r c a, ParseR s r c a := by
  by_cases h0 : 2000 < s.length
  · exact ⟨_, _, _, .long h0⟩
  have h0 : s.length ≤ 2000 := by omega
  obtain ⟨l, c, i, hl⟩ : ∃ l c i, lexF s 0 [] = (l, c, i) := ⟨_, _, _, rfl⟩
  obtain ⟨k1, k2, k3⟩ := lexF_ok s s.length 0 [] (by omega) (by simp) (by simp) (by simp)
  rw [hl] at k1 k2 k3
  by_cases hc : c = 0
  case neg => exact ⟨_, _, _, .lex h0 hl hc⟩
  have hi : i = 0 := k3 hc
  subst hc hi
  rcases first_fault l l.length with hf | ⟨k, h1, h2, h3⟩
  case inr => exact ⟨_, _, _, .fault h0 hl h1 h2 h3⟩
  by_cases ho : opens (prevK l l.length)
  · exact ⟨_, _, _, .op h0 hl hf ho⟩
  have I := stkI l l.length hf
  by_cases hd : depI l l.length = 0
  case neg => exact ⟨_, _, _, .opn h0 hl hf ho (by have := I.len; omega)⟩
  have hK : Kinds l := fun k hk => by
    have := (k1 (l.getD k tokZ) (by rw [List.getD_eq_getElem?_getD, List.getElem?_eq_getElem hk]; exact List.getElem_mem _)).2
    exact this
  obtain ⟨bs, g, hR⟩ := rule_of hK hf ho hd
  by_cases hw : 2000 < ruleW bs
  · exact ⟨_, _, _, .heavy h0 hl hf ho hd hR hw⟩
  · exact ⟨_, _, _, .good h0 hl hf ho hd hR (by omega)⟩
/-- Tokens that have been read, as a part that can be read again. -/
theorem TkS.to {B : Nat} {W : World} {sv : Value} {l : List Tok} {q : Nat → Nat} (h : TkS B W sv l q) (hk : ∀ x ∈ l, TokB x ∧ x.kind < 7) (h0 : 0 < l.length) : ∃ G c, sv = .slice (some ⟨G, 0, none⟩) l.length c ∧ TkV W G 0 0 l q ∧ l.length ≤ c ∧ c ≤ 9223372036854775807 := by
  have hrow := h.row
  rcases h.row.2 with ⟨_, h1⟩ | ⟨g, cap, cur, rfl, hg, hh, h1, h2, h3, h4⟩
  · omega
  · refine ⟨g, cap, rfl, ⟨row_lt hh, fun k hk j hj => ?_, fun k hk h0 => (h.set k hk h0).2.2, fun k hk2 => ?_⟩, h1, maxLen_num h2⟩
    · rw [Nat.zero_add, hrow.cellAt (k * 5 + j) (by omega)]
      exact tksC_get l q hk hj
    · exact (hk (l.getD k tokZ) (by rw [List.getD_eq_getElem?_getD, List.getElem?_eq_getElem hk2]; exact List.getElem_mem _)).2
/-- What spec.ParseERE answers. -/
def ParA (w : World) (r : RuleD) (c a : Int) (e : Ending) (w' : World) : Prop := Below w.heap.size w w' ∧ ∃ v, e = .returned (.tuple #[.agg #[v, .int .i64 r.groups], .int .i64 c, .int .i64 a]) ∧ BranchesAt w.heap.size w' v r.branches
theorem BranchesAt.nil (lo : Nat) (w : World) : BranchesAt lo w (.slice none 0 0) [] := ⟨none, 0, rfl, by simp, fun h => absurd h (by simp)⟩
end Go.Proofs.YtgbdlgogccgciaaGreatDoor
namespace Go.Proofs.YtgbdlgogccgciaaGreatDoor
open Go.RowKit
attribute [local go_sem ↓] Go.wp_at_zero Go.wp_at_succ

/- spec.ParseERE, ITS REFUSALS. -/
theorem ParA.bad {w w' : World} (hb : Below w.heap.size w w') {c a c' a' : Int} (hc : c' = c) (ha : a' = a) : ParA w .zero c a (.returned (.tuple #[.agg #[.slice none 0 0, .int .i64 0], .int .i64 c', .int .i64 a'])) w' := by
  subst hc ha
  exact ⟨hb, _, rfl, BranchesAt.nil _ _⟩
theorem row_two {w : World} {g : Nat} {a b : Value} {t : TypeId} (h : w.heap[g]? = some (.cells #[a, b] t (0, 0))) : w.cell? ⟨g, 0, none⟩ = some a ∧ w.cell? ⟨g, 1, none⟩ = some b ∧ w.frozen? ⟨g, 0, none⟩ = false ∧ w.frozen? ⟨g, 1, none⟩ = false :=
  ⟨row_cells h 0, row_cells h 1, frozen_of_row _ _ _ _ _ h, frozen_of_row _ _ _ _ _ h⟩
set_option maxRecDepth 100000 in
set_option maxHeartbeats 2000000 in
theorem specParse_long (t : ByteArray) (w : World) (h : 2000 < t.size) :
    Calls Tryz.prog 4 #[.string t] w (ParA w .zero 1 2000) := by
  have h1 : (2000 : Int) < (t.size : Int) := by omega
  go_enter Tryz.func4, Tryz.ntmps4
  go_wp2
  refine bodyPost_ret (v := .tuple #[.agg #[.slice none 0 0, .int .i64 0], .int .i64 1, .int .i64 2000]) (by simp [results, Tryz.results4, go_sem]) rfl ?_
  exact .bad ((Below.refl _ _).alloc (Nat.le_refl _) _) rfl rfl
set_option maxRecDepth 100000 in
set_option maxHeartbeats 2000000 in
theorem specParse_lex (t : ByteArray) (w : World) (hs : t.size ≤ 2000) {l : List Tok} {c : Int} {i : Nat} (hl : lexF t.data.toList 0 [] = (l, c, i)) (hc : c ≠ 0) :
    Calls Tryz.prog 4 #[.string t] w (ParA w .zero c (i : Int)) := by
  have h1 : ¬(2000 : Int) < (t.size : Int) := by omega
  have hk := lexF_ok t.data.toList t.data.toList.length 0 [] (by omega) (by simp) (by simp) (by simp)
  rw [hl] at hk
  obtain ⟨hkk, hkl, _⟩ := hk
  have hsz : t.data.toList.length = t.size := Array.length_toList
  have hkl0 : l.length ≤ t.data.toList.length := hkl
  have hkk : ∀ x ∈ l, TokB x ∧ x.kind < 7 := hkk
  have hkl : l.length ≤ 2000 := by omega
  clear hsz
  go_enter Tryz.func4, Tryz.ntmps4
  go_wp2_with fail
  obtain ⟨W1, hW1⟩ : ∃ W1, W1 = w.alloc (.cells #[.slice none 0 0, .int .i64 0] 24) := ⟨_, rfl⟩
  have hP : W1.heap[w.heap.size]? = some (.cells #[.slice none 0 0, .int .i64 0] 24 (0, 0)) := by rw [hW1]; exact heap_alloc_new _ _
  have hbW : Below w.heap.size w W1 := by rw [hW1]; exact (Below.refl _ _).alloc (Nat.le_refl _) _
  rw [← hW1]
  clear hW1
  refine (l1Lex_ok t W1 (by omega)).mono ?_
  rw [hl]
  rintro e w2 ⟨hb2, sv, q, rfl, hS⟩
  have hP2 := row_below hP hb2
  have hbx := below_step hbW hbW.size hb2
  have hS : TkS W1.heap.size w2 sv l q := hS
  have HS := hid hS
  have Hkk := hid hkk
  have hPW := hP
  clear hP hS hkk
  have hcb : (c != 0) = true := by simpa using hc
  obtain ⟨r0, r1, f0, f1⟩ := row_two hP2
  go_wp2
  refine bodyPost_ret (v := .tuple #[.agg #[.slice none 0 0, .int .i64 0], .int .i64 c, .int .i64 i]) (by simp [results, Tryz.results4, go_sem, r0, r1]) rfl ?_
  exact .bad ((hbx.setCell (by simp) _).setCell (by simp) _) rfl rfl
set_option maxRecDepth 100000 in
set_option maxHeartbeats 2000000 in
theorem specParse_fault (t : ByteArray) (w : World) (hs : t.size ≤ 2000) {l : List Tok} {k : Nat} (hl : lexF t.data.toList 0 [] = (l, 0, 0)) (hk0 : k < l.length) (hall : ∀ j, j < k → faultF l j = 0) (hf : faultF l k ≠ 0) :
    Calls Tryz.prog 4 #[.string t] w (ParA w .zero (faultF l k) ((l.getD k tokZ).pos : Int)) := by
  have h0 : 0 < l.length := by omega
  have h1 : ¬(2000 : Int) < (t.size : Int) := by omega
  have hk := lexF_ok t.data.toList t.data.toList.length 0 [] (by omega) (by simp) (by simp) (by simp)
  rw [hl] at hk
  obtain ⟨hkk, hkl, _⟩ := hk
  have hsz : t.data.toList.length = t.size := Array.length_toList
  have hkl0 : l.length ≤ t.data.toList.length := hkl
  have hkk : ∀ x ∈ l, TokB x ∧ x.kind < 7 := hkk
  have hkl : l.length ≤ 2000 := by omega
  clear hsz
  go_enter Tryz.func4, Tryz.ntmps4
  go_wp2_with fail
  obtain ⟨W1, hW1⟩ : ∃ W1, W1 = w.alloc (.cells #[.slice none 0 0, .int .i64 0] 24) := ⟨_, rfl⟩
  have hP : W1.heap[w.heap.size]? = some (.cells #[.slice none 0 0, .int .i64 0] 24 (0, 0)) := by rw [hW1]; exact heap_alloc_new _ _
  have hbW : Below w.heap.size w W1 := by rw [hW1]; exact (Below.refl _ _).alloc (Nat.le_refl _) _
  rw [← hW1]
  clear hW1
  refine (l1Lex_ok t W1 (by omega)).mono ?_
  rw [hl]
  rintro e w2 ⟨hb2, sv, q, rfl, hS⟩
  have hP2 := row_below hP hb2
  have hbx := below_step hbW hbW.size hb2
  have hS : TkS W1.heap.size w2 sv l q := hS
  have HS := hid hS
  have Hkk := hid hkk
  have hPW := hP
  clear hP hS hkk
  have hG := HS.out.to Hkk.out h0
  obtain ⟨G, cc, rfl, hV, hc1, hc2⟩ := hG
  have hGw : w.heap.size ≠ G := by have h1 : W1.heap.size ≤ G := (ownsRow_blk HS.out.row rfl).1; have := row_lt hPW; omega
  have HV := hid hV
  obtain ⟨n, hn⟩ : ∃ n, n = l.length := ⟨_, rfl⟩
  have hn2 : n ≤ 2000 := by omega
  have hn0 : 0 < n := by omega
  have hcn : (n : Int) ≤ (cc : Int) := by omega
  have hc3 : (cc : Int) ≤ 9223372036854775807 := by omega
  have HN := hid hn
  rw [← hn]
  obtain ⟨r0, r1, f0, f1⟩ := row_two hP2
  clear hV hn hkl
  go_wp2
  go_loop [35] (fun i => ∃ j : Nat, j ≤ k ∧ i = .int .i64 (j : Int)) (fun i => k - (intOf i).toNat)
  case atStart => exact ⟨0, by omega, rfl⟩
  case round =>
    obtain ⟨j, hj, rfl⟩ := hrel
    have hkn : k < n := by have := HN.out; omega
    have hjn : (j : Int) < (n : Int) := by omega
    have hC := l1Fault_ok (c := cc) w2 HV.out (k := j) (by have := HN.out; omega) (by have := HN.out; omega)
    rw [← HN.out] at hC
    by_cases hlt : j < k
    · rw [hall j hlt] at hC
      go_wp2_with fail
      refine hC.mono ?_
      rintro e w3 ⟨rfl, hw⟩
      rw [hw]
      clear hw w3 hC
      go_wp2
      go_round
      case rel => exact ⟨j + 1, by omega, by go_num⟩
      case measure => simp [intOf]; omega
    · have hjk : j = k := by omega
      subst hjk
      have z1 := HV.out.posC hk0
      rw [Nat.zero_add] at z1
      generalize faultF l j = F at *
      generalize ((l.getD j tokZ).pos : Int) = PP at *
      have hFb : (F != 0) = true := by simpa using hf
      have z2 : ((w2.setCell ⟨w.heap.size, 0, none⟩ (.slice none 0 0)).setCell ⟨w.heap.size, 1, none⟩ (.int .i64 0)).cell? ⟨G, j * 5 + 1, none⟩ = some (.int .i64 PP) := by
        rw [World.cell?_of_block (w := w2)]
        · exact z1
        · rw [Below.heap_setCell _ _ _ _ (fun e => hGw e.symm), Below.heap_setCell _ _ _ _ (fun e => hGw e.symm)]
      go_wp2_with fail
      refine hC.mono ?_
      rintro e w3 ⟨rfl, hw⟩
      rw [hw]
      clear hw w3 hC
      go_wp2
      go_region
      all_goals go_wp2
      all_goals refine bodyPost_ret (v := .tuple #[.agg #[.slice none 0 0, .int .i64 0], .int .i64 F, .int .i64 PP]) (by simp [results, Tryz.results4, go_sem, r0, r1]) rfl ?_
      all_goals first | exact .bad ((hbx.setCell (Nat.le_refl _) _).setCell (Nat.le_refl _) _) rfl rfl | exact .bad ((hbx.setCell (Nat.le_refl _) _).setCell (Nat.le_refl _) _).drew rfl rfl | exact .bad ((hbx.drew.setCell (Nat.le_refl _) _).setCell (Nat.le_refl _) _) rfl rfl
end Go.Proofs.YtgbdlgogccgciaaGreatDoor
