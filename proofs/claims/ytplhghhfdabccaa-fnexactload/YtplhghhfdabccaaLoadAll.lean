import Derived.Test.YtplhghhfdabccaaLoadE
import Derived.Test.YtplhghhfdabccaaLoadS
import Derived.Test.YtplhghhfdabccaaLoadR
namespace Go.Proofs.Ytplhghhfdabccaa
open Go.RowKit

theorem loop_eq (bs : ByteArray) : ∀ (n i : Nat) (r : List UInt8), bs.size - i = n → ByteArray.toList.loop bs i r = r.reverse ++ bs.data.toList.drop i := by
  intro n
  induction n with
  | zero =>
    intro i r h
    unfold ByteArray.toList.loop
    rw [if_neg (by omega), List.drop_eq_nil_of_le (by have : bs.data.toList.length = bs.size := by simp
                                                      omega)]
    simp
  | succ n ih =>
    intro i r h
    have hi : i < bs.size := by omega
    unfold ByteArray.toList.loop
    rw [if_pos hi, ih (i + 1) _ (by omega)]
    have hl : i < bs.data.toList.length := by simpa using hi
    rw [List.drop_eq_getElem_cons hl]
    have : bs.get! i = bs.data.toList[i] := by
      simp [ByteArray.get!, hi]
    simp [this]
theorem toList_data (bs : ByteArray) : bs.toList = bs.data.toList := by
  unfold ByteArray.toList
  rw [loop_eq bs _ 0 [] rfl]
  simp

def loadT (s : ByteArray) : TabD := tabOf (numN s 6) (l3 s (numN s 4) (numN s 8) (numN s 8))
def loadC (s : ByteArray) : Int :=
  if (s.size : Int) < 268 then 1
  else if ¬s.extract 0 4 = ⟨#[88, 68, 70, 49]⟩ then 2
  else if btw (numN s 4) 1 4000 = false then 3
  else if btw (numN s 6) 1 256 = false then 3
  else if 60000 < (numN s 8 : Int) then 3
  else if ¬(s.size : Int) = 268 + 8 * numN s 4 + 4 * numN s 8 then 4
  else if ¬sumF (s.extract 0 (s.size - 2)).data.toList = numN s (s.size - 2) then 5
  else if tabB (loadT s) = false then 6 else 0
def loadW (s : ByteArray) : Int := if loadC s = 0 then numN s 6 else 0
def loadL (s : ByteArray) : Nat → List Int := if loadC s = 0 then l3 s (numN s 4) (numN s 8) (numN s 8) else fun _ => []

theorem load_bad {s : ByteArray} {c : Int} (h : loadC s = c) (hc : ¬c = 0) : loadW s = 0 ∧ loadL s = fun _ => [] := by
  unfold loadW loadL
  rw [h, if_neg hc, if_neg hc]
  exact ⟨rfl, rfl⟩
theorem specLoad_ok (s : ByteArray) (w : World) (hs : s.size ≤ 1048576) :
    Calls Try.prog 35 #[.string s] w fun e w' => LoadAns w (loadW s) (loadC s) (loadL s) e w' := by
  have bad : ∀ c : Int, loadC s = c → ¬c = 0 → (Calls Try.prog 35 #[.string s] w fun e w' => LoadAns w 0 c (fun _ => []) e w') → Calls Try.prog 35 #[.string s] w fun e w' => LoadAns w (loadW s) (loadC s) (loadL s) e w' := by
    intro c h hc k
    obtain ⟨e1, e2⟩ := load_bad h hc
    rw [e1, e2, h]
    exact k
  by_cases g1 : (s.size : Int) < 268
  · exact bad 1 (by unfold loadC; rw [if_pos g1]) (by decide) (specLoad_1 s w g1)
  by_cases g2 : s.extract 0 4 = ⟨#[88, 68, 70, 49]⟩
  case neg =>
    refine bad 2 (by unfold loadC; rw [if_neg g1, if_pos g2]) (by decide) (specLoad_2 s w g1 ?_)
    rw [beq_eq_false_iff_ne, toList_data]
    intro hc
    exact g2 (Go.WideShapes.bytes_inj (by rw [hc]))
  cases g3 : btw (numN s 4) 1 4000
  case false => exact bad 3 (by unfold loadC; rw [if_neg g1, if_neg (not_not_intro g2), if_pos g3]) (by decide) (specLoad_3a s w hs g1 g2 g3)
  cases g4 : btw (numN s 6) 1 256
  case false => exact bad 3 (by unfold loadC; rw [if_neg g1, if_neg (not_not_intro g2), if_neg (by simp [g3]), if_pos g4]) (by decide) (specLoad_3b s w hs g1 g2 g3 g4)
  by_cases g5 : 60000 < (numN s 8 : Int)
  · exact bad 3 (by unfold loadC; rw [if_neg g1, if_neg (not_not_intro g2), if_neg (by simp [g3]), if_neg (by simp [g4]), if_pos g5]) (by decide) (specLoad_3c s w hs g1 g2 g3 g4 g5)
  by_cases g6 : (s.size : Int) = 268 + 8 * numN s 4 + 4 * numN s 8
  case neg => exact bad 4 (by unfold loadC; rw [if_neg g1, if_neg (not_not_intro g2), if_neg (by simp [g3]), if_neg (by simp [g4]), if_neg g5, if_pos g6]) (by decide) (specLoad_4 s w hs g1 g2 g3 g4 g5 (by simpa using g6))
  by_cases g7 : sumF (s.extract 0 (s.size - 2)).data.toList = numN s (s.size - 2)
  case neg => exact bad 5 (by unfold loadC; rw [if_neg g1, if_neg (not_not_intro g2), if_neg (by simp [g3]), if_neg (by simp [g4]), if_neg g5, if_neg (not_not_intro g6), if_pos g7]) (by decide) (specLoad_5 s w hs g1 g2 g3 g4 g5 g6 (by rw [bne_iff_ne]; intro h; exact g7 (Int.ofNat.inj h)))
  refine specLoad_t s w hs g1 g2 g3 g4 g5 g6 g7 _ _ _ ?_
  have base : loadC s = if tabB (loadT s) = false then 6 else 0 := by
    unfold loadC; rw [if_neg g1, if_neg (not_not_intro g2), if_neg (by simp [g3]), if_neg (by simp [g4]), if_neg g5, if_neg (not_not_intro g6), if_neg (not_not_intro g7)]
  refine ⟨fun hb => ?_, fun hb => ?_⟩
  · have e : loadC s = 0 := by rw [base, if_neg (by rw [show tabB (loadT s) = true from hb]; simp)]
    unfold loadW loadL
    rw [e]
    exact ⟨rfl, rfl, rfl⟩
  · have e : loadC s = 6 := by rw [base, if_pos (show tabB (loadT s) = false from hb)]
    obtain ⟨e1, e2⟩ := load_bad e (by decide)
    exact ⟨e1, e, e2⟩
end Go.Proofs.Ytplhghhfdabccaa
