import Derived.Test.YtplhghhfdabccaaDoorPackP
namespace Go.Proofs.YtplhghhfdabccaaDoor
open Go.RowKit
attribute [local go_sem ↓] Go.wp_at_zero Go.wp_at_succ

/- ONE STATE LAID. -/
def pr2 (a b : List Int) : Nat → List Int
  | 0 => a
  | 1 => b
  | _ => []
theorem pr2_0 (a b x : List Int) : updL (pr2 a b) 0 x = pr2 x b := by
  funext j; match j with
  | 0 => rfl
  | 1 => rfl
  | j + 2 => rfl
theorem pr2_1 (a b x : List Int) : updL (pr2 a b) 1 x = pr2 a x := by
  funext j; match j with
  | 0 => rfl
  | 1 => rfl
  | j + 2 => rfl
theorem Ly.lenAt {B p gT : Nat} {T : Nat → Nat} {v : Nat → Value} {l : Nat → List Int} {W : World} (S : Ly B p gT T v l W) : Go.Proofs.YtplhghhfdabccaaDoor.lenAt W ⟨p, 1, none⟩ = (l 0).length := by
  obtain ⟨⟨ca, ccp⟩, hv⟩ := owns_form (S.fam.own 0 (by omega))
  unfold Go.Proofs.YtplhghhfdabccaaDoor.lenAt
  rw [(row_ly S.box).2.1, hv]
/-- What 'place' answers. -/
def PlAns (w : World) (B p gT : Nat) (v : Nat → Value) (N C : List Int) (s : Nat) (row : List Int) (dv : Int) (e : Ending) (w' : World) : Prop :=
  (oddF row dv row.length = [] ∧ e = .returned (.tuple #[.int .i64 0, .bool true]) ∧ Below w.heap.size w w') ∨
  (¬oddF row dv row.length = [] ∧ ∃ k : Nat, fitF C (oddF row dv row.length) = k ∧
    (((oddF row dv row.length).all (fun c => decide (k + c < 60000)) = false ∧ e = .returned (.tuple #[.int .i64 0, .bool false]) ∧ Below w.heap.size w w') ∨
     ((oddF row dv row.length).all (fun c => decide (k + c < 60000)) = true ∧ e = .returned (.tuple #[.int .i64 k, .bool true]) ∧
       ∃ (T' : Nat → Nat) (v' : Nat → Value), Ly B p gT T' v' (pr2 (layAll 0 N k (fun c => row.getD c 0) (oddF row dv row.length)) (layAll (-1) C k (fun _ => (s : Int)) (oddF row dv row.length))) w' ∧ LyK w p gT v v' w' ∧
         ∀ q, bitAt T' q = !freeAt (layAll (-1) C k (fun _ => (s : Int)) (oddF row dv row.length)) q)))

set_option maxRecDepth 100000 in
set_option maxHeartbeats 4000000 in
theorem place_ok (B p gT : Nat) (T : Nat → Nat) (v : Nat → Value) (N C : List Int) (s b o rcap : Nat) (row : List Int) (dv : Int) (w : World) (S0 : Ly B p gT T v (pr2 N C) w) (hbB : b ≤ B) (hbl : b < w.heap.size)
    (Hc : Hid (∀ i, i < row.length → w.cell? ⟨b, o + i, none⟩ = some (.int .i64 (row.getD i 0)))) (h1 : row.length ≤ 256) (hlen : C.length ≤ 60000) (hll : Hid (N.length = C.length)) (hbits : Hid (∀ q, bitAt T q = !freeAt C q)) (hB : Hid (Bruijn w)) :
    Calls Tryd.prog 22 #[.pointer (some ⟨p, 0, none⟩), .int .i64 s, .slice (some ⟨b, o, none⟩) row.length rcap, .int .i64 dv] w fun e w' => PlAns w B p gT v N C s row dv e w' := by
  obtain ⟨i0, hi, hz0, hz1, hz2⟩ := info_parts Tryd.infoInt
  have own0 := ownsRow_new_at w 3 w.heap.size w.heap.size (Nat.le_refl _) rfl
  have hb0 : Below w.heap.size w (w.alloc (.cells #[] 3)) := (Below.refl _ _).alloc (Nat.le_refl _) _
  go_enter Tryd.func22, Tryd.ntmps22
  go_wp2
  go_loopw [10, 20] (fun ev i wr => ∃ (k g cap : Nat), k ≤ row.length ∧ i = .int .i64 k ∧ ev = .slice (some ⟨g, 0, none⟩) (oddI row dv k).length cap ∧ Below w.heap.size w wr ∧ wr.ownsRow w.heap.size 3 1 (.slice (some ⟨g, 0, none⟩) (oddI row dv k).length cap) (oddI row dv k).length ((oddI row dv k).map intV))
    (fun _ i _ => row.length - (intOf i).toNat)
  case atStart => exact ⟨0, w.heap.size, 0, by omega, rfl, rfl, hb0, own0⟩
  case round =>
    clear own0 hb0
    obtain ⟨k, g, cap, hk, rfl, rfl, hb, own⟩ := hrel
    have hsz := hb.size
    by_cases hlt : k < row.length
    · have c0 : wr.cell? ⟨b, o + k, none⟩ = some (.int .i64 (row.getD k 0)) := (hb.cell (by exact hbl)).trans (Hc.out k hlt)
      have hol : (oddI row dv k).length ≤ 2000000 := by have := oddF_len row dv k; rw [oddI_len]; omega
      have hlt' : (k : Int) < (row.length : Int) := by omega
      have HY : Hid (¬row.getD k 0 = dv → oddI row dv (k + 1) = oddI row dv k ++ [(k : Int)]) := oddI_yes
      have HZ : Hid (row.getD k 0 = dv → oddI row dv (k + 1) = oddI row dv k) := oddI_no
      generalize row.getD k 0 = x at *
      by_cases hx : x = dv
      · have HI : Hid (oddI row dv (k + 1) = oddI row dv k) := HZ.out hx
        have hne : (x != dv) = false := by simp only [hx, bne_self_eq_false]
        clear hx HY HZ
        go_wp2
        go_roundw
        case rel => exact ⟨k + 1, g, cap, by omega, by go_num, by rw [HI.out], hb, by rw [HI.out]; exact own⟩
        case measure => simp [intOf]; omega
      · have HI : Hid (oddI row dv (k + 1) = oddI row dv k ++ [(k : Int)]) := HY.out hx
        have hne : (x != dv) = true := by simp only [bne_iff_ne, ne_eq, hx, not_false_eq_true]
        clear hx HY HZ
        go_wp2_with (refine wpList_append_oneH wr wr.heap.size rfl rfl (.tmp 28) (.tmp 30) 22 rfl w.heap.size 3 i0 _ 8 Tryd.underlying22 hi hz0 hz1 hz2 rfl g cap _ _ (.int .i64 k) rfl own rfl rfl hol (by omega) hsz ?_; intro g' cap' w' own' grow' at')
        go_roundw
        case rel =>
          refine ⟨k + 1, g', cap', by omega, by go_num, by rw [HI.out]; simp, hb.grown grow' hsz (fun j hj => by cases hj; exact (own_form own).1), ?_⟩
          rw [HI.out, List.length_append, List.map_append]
          exact own'
        case measure => simp [intOf]; omega
    · have hkk : k = row.length := by omega
      subst hkk
      clear hk hlt
      have OW : Owns w.heap.size wr (.slice (some ⟨g, 0, none⟩) (oddI row dv row.length).length cap) (oddI row dv row.length) := own
      obtain ⟨n, hn⟩ : ∃ n, (oddI row dv row.length).length = n := ⟨_, rfl⟩
      have HN : Hid ((oddF row dv row.length).length = n) := by show _ = _; rw [← oddI_len]; exact hn
      rw [hn] at OW ⊢
      clear hn own
      cases n with
      | zero =>
        have HZ : Hid (oddF row dv row.length = []) := List.eq_nil_of_length_eq_zero HN.out
        clear HN OW
        go_wp2
        refine bodyPost_ret (v := .tuple #[.int .i64 0, .bool true]) (by simp [results, Tryd.results22, go_sem]) rfl ?_
        exact .inl ⟨HZ.out, rfl, hb⟩
      | succ m =>
        have S1 := S0.grow hb
        obtain ⟨c, HC⟩ : ∃ c : Nat, Hid (∃ a, oddF row dv row.length = a ++ [c] ∧ a.length = m) := by
          have hne : oddF row dv row.length ≠ [] := fun h => by have := HN.out; rw [h] at this; cases this
          refine ⟨_, _, (List.dropLast_concat_getLast hne).symm, ?_⟩
          rw [List.length_dropLast, HN.out]; rfl
        have HL : Hid (∀ x ∈ oddF row dv row.length, x ≤ c) := by obtain ⟨a, ha, _⟩ := HC.out; exact oddF_last ha
        have HM : Hid (c ∈ oddF row dv row.length) := by obtain ⟨a, ha, _⟩ := HC.out; show _ ∈ _; rw [ha]; simp
        have hcr : c < row.length := oddF_lt HM.out
        have hm : m + 1 ≤ 256 := by have := HN.out; have := oddF_len row dv row.length; omega
        have HNe : Hid (¬oddF row dv row.length = []) := fun h => by have := HM.out; rw [h] at this; cases this
        have OC : Hid (∀ j, j < m + 1 → ∃ x : Nat, (oddF row dv row.length)[j]? = some x ∧ wr.cell? ⟨g, j, none⟩ = some (.int .i64 (x : Int))) := fun j hj => by
          have hj2 : j < (oddF row dv row.length).length := by rw [HN.out]; exact hj
          refine ⟨(oddF row dv row.length)[j], by simp, ?_⟩
          have := World.ownsRow.cellAt (show wr.ownsRow w.heap.size 3 1 (.slice (some ⟨g, 0, none⟩) (oddI row dv row.length).length cap) (oddI row dv row.length).length ((oddI row dv row.length).map intV) by have := OW; unfold Owns at this; rw [oddI_len, HN.out]; rw [oddI_len, HN.out] at this; exact this) j (by rw [oddI_len]; omega)
          rw [this]
          simp [oddI, intV, hj2]
        have cL : wr.cell? ⟨g, m, none⟩ = some (.int .i64 (c : Int)) := by
          obtain ⟨x, hx1, hx2⟩ := OC.out m (by omega)
          obtain ⟨a, ha, hal⟩ := HC.out
          rw [ha, ← hal] at hx1
          simp at hx1
          rw [hx2, hx1]
        have hgl : g < wr.heap.size := (owns_block OW (b := g) rfl).2
        have cF := firstFit_ok p gT 943 T (v 0) (v 1) (.slice (some ⟨g, 0, none⟩) (m + 1) cap) (oddF row dv row.length) C.length wr S1.box S1.words (OW.at (by rw [oddI_len, HN.out]; omega)) (by rw [HN.out]; omega) (by rw [HN.out]; exact hm) S1.tl (fun x hx => by have := oddF_lt hx; omega) hlen (fun q hq => by rw [hbits.out]; unfold freeAt; simp [hq]) (fun i hi => by rw [← hB.out i hi]; exact hb.cell (p := ⟨0, i, none⟩) (by have : b ≤ B := hbB; simp; omega))
        go_wp2_with fail
        refine cF.mono ?_
        rintro e W1 ⟨⟨k, rfl, hk, hf1, hf2⟩, hbF⟩
        have HFit : Hid (fitF C (oddF row dv row.length) = k) := fitF_eq (by rw [← fits_bits hbits.out]; exact hf1) (fun j hj => by rw [← fits_bits hbits.out]; exact hf2 j hj)
        have hb1 := below_step hb hb.size hbF
        have S2 := S1.grow hbF
        have cL1 : W1.cell? ⟨g, m, none⟩ = some (.int .i64 (c : Int)) := (hbF.cell (by exact hgl)).trans cL
        have OC1 : Hid (∀ j, j < m + 1 → ∃ x : Nat, (oddF row dv row.length)[j]? = some x ∧ W1.cell? ⟨g, j, none⟩ = some (.int .i64 (x : Int))) := fun j hj => by
          obtain ⟨x, hx1, hx2⟩ := OC.out j hj
          exact ⟨x, hx1, (hbF.cell (by exact hgl)).trans hx2⟩
        have hgw : w.heap.size ≤ g ∧ g < W1.heap.size := ⟨(owns_block OW (b := g) rfl).1, Nat.lt_of_lt_of_le hgl hbF.size⟩
        clear hf1 hf2 cF cL OC hbF S1 OW hb hgl HC
        by_cases htop : k + c < 60000
        · have htop' : ¬60000 ≤ (k : Int) + (c : Int) := by omega
          have HTop : Hid (k + c < 60000) := htop
          have HAll : Hid ((oddF row dv row.length).all (fun c => decide (k + c < 60000)) = true) := by
            show _ = _
            rw [List.all_eq_true]
            intro x hx
            have := HL.out x hx
            simp only [decide_eq_true_eq]
            omega
          have hkc : (k : Int) + (c : Int) ≤ 59999 := by omega
          have hk2 : k ≤ 59999 := by omega
          clear htop hk htop'
          have htd : decide (60000 ≤ (k : Int) + (c : Int)) = false := by
            rw [decide_eq_false_iff_not]; omega
          have HLen : Hid (C.length ≤ 60000) := hlen
          clear hkc hlen
          go_upto_region 12 with fail
          go_wp2
          clear cL1 htd
          go_loopw [] (fun wr => ∃ (n : Nat) (v' : Nat → Value), C.length ≤ n ∧ n ≤ max C.length (k + c + 1) ∧ Ly B p gT T v' (pr2 (longL 0 n N) (longL (-1) n C)) wr ∧ LyK W1 p gT v v' wr)
            (fun wr => k + c + 1 - lenAt wr ⟨p, 1, none⟩)
          case atStart => exact ⟨C.length, v, Nat.le_refl _, by omega, by rw [longL_self (Nat.le_refl _), longL_self (by rw [hll.out]; exact Nat.le_refl _)]; exact S2, LyK.of_below (Below.refl _ _)⟩
          case round =>
            clear S2
            obtain ⟨n, v', hn1, hn2, S, K⟩ := hrel
            have hlN0 : (longL 0 n N).length = n := by rw [longL_len]; have := hll.out; omega
            obtain ⟨⟨ca, ccp⟩, hv0⟩ := owns_form (S.fam.own 0 (by omega))
            have hv0' : v' 0 = .slice ca n ccp := by rw [hv0]; show Value.slice ca (longL 0 n N).length ccp = _; rw [hlN0]
            have HLA : Hid (lenAt wr ⟨p, 1, none⟩ = n) := by show _ = _; rw [S.lenAt]; exact hlN0
            clear hv0 hlN0
            obtain ⟨a0, a1, a2⟩ := row_ly S.box
            have a1' := a1
            rw [hv0'] at a1'
            by_cases hnq : n ≤ k + c
            · have hnq' : (n : Int) ≤ (k : Int) + (c : Int) := by omega
              have hNn : N.length ≤ n := by rw [hll.out]; exact hn1
              have hn9 : n ≤ 60000 := by have := HTop.out; omega
              have hlN : (longL 0 n N).length ≤ 2000000 := by rw [longL_len]; omega
              have hlC : (longL (-1) n C).length ≤ 2000000 := by rw [longL_len]; omega
              have HBig2 : Hid (n ≤ k + c) := hnq
              clear hnq a1
              go_upto_region 15 with fail
              go_cut [] from 56 to 64 (fun wx => ∃ v1, Ly B p gT T v1 (pr2 (longL 0 (n + 1) N) (longL (-1) n C)) wx ∧ LyK W1 p gT v v1 wx)
              case first =>
                clear a1' hv0'
                obtain ⟨_, a1, _⟩ := row_ly S.box
                go_wp2_with (refine wpList_ly S wr.heap.size rfl rfl (.tmp 60) (.tmp 61) rfl 0 (by omega) 1 rfl (longL 0 n N) rfl (longL 0 n N).length rfl rfl 0 rfl hlN ?_; intro g1 cap1 V1 rr SN KN; clear a0 a1 a2; obtain ⟨a0, a1, a2⟩ := row_ly rr; have fr0 := frozen_of_row _ _ 1 _ _ rr)
                rw [pr2_0, ← longL_step hNn] at SN
                have KK := K.trans KN
                go_meet
                exact ⟨upd v' 0 (.slice (some ⟨g1, 0, none⟩) ((longL 0 n N).length + 1) cap1), SN, KK⟩
              case rest =>
                obtain ⟨v1, S1, K1⟩ := hcut
                clear a0 a1' a2 S K
                obtain ⟨a0, a1, a2⟩ := row_ly S1.box
                go_wp2_with (refine wpList_ly S1 wc.heap.size rfl rfl (.tmp 69) (.tmp 70) rfl 1 (by omega) 2 rfl (longL (-1) n C) rfl (longL (-1) n C).length rfl rfl (-1) rfl hlC ?_; intro g1 cap1 V1 rr SN KN; clear a0 a1 a2; obtain ⟨a0, a1, a2⟩ := row_ly rr; have fr0 := frozen_of_row _ _ 2 _ _ rr)
                rw [pr2_1, ← longL_step hn1] at SN
                have KK := K1.trans KN
                have HLN : Hid _ := SN.lenAt
                go_roundw
                case rel => exact ⟨n + 1, upd v1 1 (.slice (some ⟨g1, 0, none⟩) ((longL (-1) n C).length + 1) cap1), by omega, by have := HBig2.out; omega, SN, KK⟩
                case measure =>
                  rw [HLA.out, HLN.out]
                  show k + c + 1 - (longL 0 (n + 1) N).length < _
                  rw [longL_len]
                  have := HBig2.out
                  omega
            · have hnq' : ¬(n : Int) ≤ (k : Int) + (c : Int) := by omega
              have SX : Ly B p gT T v' (pr2 (longL 0 (k + c + 1) N) (longL (-1) (k + c + 1) C)) wr := by
                have hmax : n = max C.length (k + c + 1) := by omega
                have e1 : longL (-1) n C = longL (-1) (k + c + 1) C := by rw [hmax, longL_max]
                have e2 : longL 0 n N = longL 0 (k + c + 1) N := by rw [hmax, ← hll.out, longL_max]
                rw [← e1, ← e2]; exact S
              have HBX : Hid (∀ q, bitAt T q = !freeAt (longL (-1) (k + c + 1) C) q) := fun q => by rw [free_long C _ _ rfl]; exact hbits.out q
              have HN1 : Hid (layAll 0 N k (fun c => row.getD c 0) (oddF row dv row.length) = setAll (longL 0 (k + c + 1) N) k (fun c => row.getD c 0) (oddF row dv row.length)) := lay_same _ _ _ _ _ c HM.out HL.out
              have HC1 : Hid (layAll (-1) C k (fun _ => (s : Int)) (oddF row dv row.length) = setAll (longL (-1) (k + c + 1) C) k (fun _ => (s : Int)) (oddF row dv row.length)) := lay_same _ _ _ _ _ c HM.out HL.out
              have HlN : Hid (k + c + 1 ≤ (longL 0 (k + c + 1) N).length) := by show _ ≤ _; rw [longL_len]; omega
              have HlC : Hid (k + c + 1 ≤ (longL (-1) (k + c + 1) C).length) := by show _ ≤ _; rw [longL_len]; omega
              have HG : Hid (∀ wx, LyK W1 p gT v v' wx → ∀ j, wx.cell? ⟨g, j, none⟩ = W1.cell? ⟨g, j, none⟩) := fun wx hk j => by
                have q1 : p < w.heap.size := row_lt S0.box
                have q2 : gT < w.heap.size := row_lt S0.words
                refine World.cell?_of_block (hk.rest g hgw.2 (by omega) (by omega) fun i hi hc => ?_)
                have := (owns_block (S0.fam.own i hi) hc).2
                omega
              have HR : Hid (∀ wx, LyK W1 p gT v v' wx → ∀ i, i < row.length → wx.cell? ⟨b, o + i, none⟩ = some (.int .i64 (row.getD i 0))) := fun wx hk i hi => by
                have q1 := S0.bp
                have q2 := S0.bT
                have q3 := hb1.size
                have : wx.cell? ⟨b, o + i, none⟩ = W1.cell? ⟨b, o + i, none⟩ := by
                  refine World.cell?_of_block (hk.rest b (by omega) (by omega) (by omega) fun i hi hc => ?_)
                  have := (owns_block (S0.fam.own i hi) hc).1
                  omega
                rw [this, hb1.cell (p := ⟨b, o + i, none⟩) (by exact hbl), Hc.out i hi]
              generalize longL 0 (k + c + 1) N = N1 at *
              generalize longL (-1) (k + c + 1) C = C1 at *
              clear S a1 hv0' HLA hn1 hn2
              go_wp2
              clear hnq' a1' a0 a2
              go_loopw [76] (fun i wr => ∃ (j : Nat) (T2 : Nat → Nat), j ≤ m + 1 ∧ i = .int .i64 j ∧ Ly B p gT T2 v' (pr2 (setAll N1 k (fun c => row.getD c 0) ((oddF row dv row.length).take j)) (setAll C1 k (fun _ => (s : Int)) ((oddF row dv row.length).take j))) wr ∧ LyK W1 p gT v v' wr ∧ Hid (∀ q, bitAt T2 q = !freeAt (setAll C1 k (fun _ => (s : Int)) ((oddF row dv row.length).take j)) q))
                (fun i _ => m + 1 - (intOf i).toNat)
              case atStart => exact ⟨0, T, by omega, rfl, SX, K, HBX⟩
              case round =>
                clear SX K HBX
                obtain ⟨j, T2, hj, rfl, S, K, HBt⟩ := hrel
                by_cases hjl : j < m + 1
                · obtain ⟨x, hx1, hx2⟩ := OC1.out j hjl
                  have c0 : wr.cell? ⟨g, j, none⟩ = some (.int .i64 (x : Int)) := (HG.out wr K j).trans hx2
                  have hj2 : j < (oddF row dv row.length).length := by rw [HN.out]; exact hjl
                  have hxe : (oddF row dv row.length)[j] = x := by rw [List.getElem?_eq_getElem hj2] at hx1; exact Option.some.inj hx1
                  have HMx : Hid (x ∈ oddF row dv row.length) := by show _ ∈ _; rw [← hxe]; exact List.getElem_mem _
                  have hxc : x ≤ c := HL.out x HMx.out
                  have hxr : x < row.length := oddF_lt HMx.out
                  have HT : Hid ((oddF row dv row.length).take (j + 1) = (oddF row dv row.length).take j ++ [x]) := by show _ = _; rw [List.take_succ_eq_append_getElem hj2, hxe]
                  have hjl' : (j : Int) < (m : Int) + 1 := by omega
                  have HA : Hid (setAll N1 k (fun c => row.getD c 0) ((oddF row dv row.length).take (j + 1)) = (setAll N1 k (fun c => row.getD c 0) ((oddF row dv row.length).take j)).set (k + x) (row.getD x 0)) := by show _ = _; rw [HT.out, setAll_snoc]
                  have HA2 : Hid (setAll C1 k (fun _ => (s : Int)) ((oddF row dv row.length).take (j + 1)) = (setAll C1 k (fun _ => (s : Int)) ((oddF row dv row.length).take j)).set (k + x) (s : Int)) := by show _ = _; rw [HT.out, setAll_snoc]
                  have hNl : k + x < (setAll N1 k (fun c => row.getD c 0) ((oddF row dv row.length).take j)).length := by rw [setAll_len]; have := HlN.out; omega
                  have hCl : k + x < (setAll C1 k (fun _ => (s : Int)) ((oddF row dv row.length).take j)).length := by rw [setAll_len]; have := HlC.out; omega
                  have hrx := HR.out wr K x hxr
                  generalize setAll N1 k (fun c => row.getD c 0) ((oddF row dv row.length).take j) = N2 at *
                  generalize setAll C1 k (fun _ => (s : Int)) ((oddF row dv row.length).take j) = C2 at *
                  have HB2 : Hid (∀ q, bitAt (addT T2 (k + x)) q = !freeAt (C2.set (k + x) (s : Int)) q) := bits_set HBt.out (k + x) hCl (s : Int) (by omega)
                  obtain ⟨a0, _, _⟩ := row_ly S.box
                  have hkx : k + x ≤ 59999 := by have := HTop.out; omega
                  have cA := add_ok gT 943 T2 (k + x) wr S.words (by omega) S.tl
                  rw [Int.natCast_add] at cA
                  have HKX : Hid (k + x ≤ 59999) := hkx
                  have hkx' : (k : Int) + (x : Int) ≤ 59999 := by omega
                  clear hx1 hx2 hj2 hxe hrx hkx
                  go_wp2_with fail
                  refine cA.mono ?_
                  rintro e W2 ⟨rfl, t1, t2, t3, t4, t5, t6⟩
                  obtain ⟨S3, K3⟩ := S.take (k + x) t1 t2 t3 t4 t5 t6
                  have K4 := K.trans K3
                  clear t1 t2 t3 t4 t5 t6 cA a0 c0 S K K3
                  obtain ⟨g5, cp5, e5, c5, f5⟩ := S3.at (i := 0) (xs := N2) (by omega) rfl (by omega)
                  obtain ⟨g6, cp6, e6, c6, f6⟩ := S3.at (i := 1) (xs := C2) (by omega) rfl (by omega)
                  have d5 := c5 (k + x) hNl
                  have d6 := c6 (k + x) hCl
                  have f5' := f5 (k + x)
                  have f6' := f6 (k + x)
                  obtain ⟨a0, a1, a2⟩ := row_ly S3.box
                  rw [e5] at a1
                  rw [e6] at a2
                  have rc := HR.out W2 K4 x hxr
                  have h56 : g5 ≠ g6 := fun h => S3.fam.apart 0 1 (by omega) (by omega) (by omega) g5 (by rw [e5]; rfl) (by rw [e6, h]; rfl)
                  have h65 : g6 ≠ g5 := fun h => h56 h.symm
                  have hi5 : (k : Int) + (x : Int) < (N2.length : Int) := by omega
                  have hi6 : (k : Int) + (x : Int) < (C2.length : Int) := by omega
                  have hir : (x : Int) < (row.length : Int) := by omega
                  obtain ⟨PA, KA⟩ := S3.put (i := 0) (by omega) rfl e5 (k + x) (row.getD x 0)
                  obtain ⟨PB, KB⟩ := PA.put (i := 1) (by omega) rfl e6 (k + x) (s : Int)
                  obtain ⟨PC, KC⟩ := S3.put (i := 1) (by omega) rfl e6 (k + x) (s : Int)
                  obtain ⟨PD, KD⟩ := PC.put (i := 0) (by omega) rfl e5 (k + x) (row.getD x 0)
                  rw [pr2_0, pr2_1] at PB
                  rw [pr2_1, pr2_0] at PD
                  have KE := K4.trans (KA.trans KB)
                  have KF := K4.trans (KC.trans KD)
                  have HP1 : Hid (Ly B p gT (addT T2 (k + x)) v' (pr2 (setAll N1 k (fun c => row.getD c 0) ((oddF row dv row.length).take (j + 1))) (setAll C1 k (fun _ => (s : Int)) ((oddF row dv row.length).take (j + 1)))) ((W2.setCell ⟨g5, k + x, none⟩ (.int .i64 (row.getD x 0))).setCell ⟨g6, k + x, none⟩ (.int .i64 (s : Int))) ∧ LyK W1 p gT v v' ((W2.setCell ⟨g5, k + x, none⟩ (.int .i64 (row.getD x 0))).setCell ⟨g6, k + x, none⟩ (.int .i64 (s : Int)))) := by rw [HA.out, HA2.out]; exact ⟨PB, KE⟩
                  have HP2 : Hid (Ly B p gT (addT T2 (k + x)) v' (pr2 (setAll N1 k (fun c => row.getD c 0) ((oddF row dv row.length).take (j + 1))) (setAll C1 k (fun _ => (s : Int)) ((oddF row dv row.length).take (j + 1)))) ((W2.setCell ⟨g6, k + x, none⟩ (.int .i64 (s : Int))).setCell ⟨g5, k + x, none⟩ (.int .i64 (row.getD x 0))) ∧ LyK W1 p gT v v' ((W2.setCell ⟨g6, k + x, none⟩ (.int .i64 (s : Int))).setCell ⟨g5, k + x, none⟩ (.int .i64 (row.getD x 0)))) := by rw [HA.out, HA2.out]; exact ⟨PD, KF⟩
                  have HB3 : Hid (∀ q, bitAt (addT T2 (k + x)) q = !freeAt (setAll C1 k (fun _ => (s : Int)) ((oddF row dv row.length).take (j + 1))) q) := by rw [HA2.out]; exact HB2.out
                  clear PA PB PC PD KA KB KC KD KE KF c5 c6 f5 f6 S3 K4 HB2 HA HA2 HT HMx
                  generalize row.getD x 0 = y at *
                  go_upto_region 22 with fail
                  go_region
                  all_goals
                    go_wp2
                    go_roundw
                    case rel =>
                      refine ⟨j + 1, addT T2 (k + x), by omega, by go_num, ?_, ?_, HB3.out⟩
                      · first
                          | exact HP1.out.1
                          | exact HP2.out.1
                          | exact HP1.out.1.grow (Below.refl _ _).drew
                          | exact HP2.out.1.grow (Below.refl _ _).drew
                      · first
                          | exact HP1.out.2
                          | exact HP2.out.2
                          | exact HP1.out.2.trans (LyK.of_below (Below.refl _ _).drew)
                          | exact HP2.out.2.trans (LyK.of_below (Below.refl _ _).drew)
                    case measure => simp [intOf]; omega
                · have htk : (oddF row dv row.length).take j = oddF row dv row.length := List.take_of_length_le (by rw [HN.out]; omega)
                  rw [htk] at S HBt
                  have hjl' : ¬(j : Int) < (m : Int) + 1 := by omega
                  clear htk
                  go_wp2
                  refine bodyPost_ret (v := .tuple #[.int .i64 k, .bool true]) (by simp [results, Tryd.results22, go_sem]) rfl ?_
                  refine .inr ⟨HNe.out, k, HFit.out, .inr ⟨HAll.out, rfl, T2, v', ?_, (LyK.of_below hb1).trans K, ?_⟩⟩
                  · rw [HN1.out, HC1.out]; exact S
                  · rw [HC1.out]; exact HBt.out
        · have htop' : 60000 ≤ (k : Int) + (c : Int) := by omega
          have HAll : Hid ((oddF row dv row.length).all (fun c => decide (k + c < 60000)) = false) := by
            show _ = _
            rw [List.all_eq_false]
            exact ⟨c, HM.out, by simpa using htop⟩
          go_wp2
          refine bodyPost_ret (v := .tuple #[.int .i64 0, .bool false]) (by simp [results, Tryd.results22, go_sem]) rfl ?_
          exact .inr ⟨HNe.out, k, HFit.out, .inl ⟨HAll.out, rfl, hb1⟩⟩
end Go.Proofs.YtplhghhfdabccaaDoor
