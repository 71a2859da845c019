/- The ray in closed form, and what Row gives. -/
import Derived.Test.YtafokllnelibcaaYB
namespace Go.Proofs.Ytafokllnelibcaa
open Go.RowKit Go.Lib

def rS (L A i : Int) : Int := (2 * i * A + L) / (2 * L)
theorem rS_rng (L A i : Int) (hL : 1 ≤ L) (hA0 : 0 ≤ A) (hA : A ≤ L) (hi0 : 0 ≤ i) (hi : i ≤ L) : 0 ≤ rS L A i ∧ rS L A i ≤ A ∧ A - L + i ≤ rS L A i ∧ rS L A i ≤ i := by
  have p1 := Int.mul_nonneg hi0 hA0
  have p2 := Int.mul_nonneg (show 0 ≤ L - i by omega) hA0
  have p3 := Int.mul_nonneg (show 0 ≤ L - i by omega) (show 0 ≤ L - A by omega)
  have p4 := Int.mul_nonneg hi0 (show 0 ≤ L - A by omega)
  rw [Int.sub_mul] at p2
  rw [Int.sub_mul, Int.mul_sub, Int.mul_sub] at p3
  rw [Int.mul_sub] at p4
  have hc : 2 * i * A = 2 * (i * A) := Int.mul_assoc _ _ _
  unfold rS
  rw [hc]
  refine ⟨Int.ediv_nonneg (by omega) (by omega), ?_, ?_, ?_⟩
  · have : (2 * (i * A) + L) / (2 * L) < A + 1 := by
      apply Int.ediv_lt_of_lt_mul (by omega)
      have : (A + 1) * (2 * L) = 2 * (L * A) + 2 * L := by rw [Int.add_mul, Int.one_mul, Int.mul_comm A, Int.mul_assoc]
      omega
    omega
  · apply Int.le_ediv_of_mul_le (by omega)
    have : (A - L + i) * (2 * L) = 2 * (L * A) - 2 * (L * L) + 2 * (i * L) := by
      rw [Int.add_mul, Int.sub_mul, Int.mul_comm A, Int.mul_assoc, Int.mul_left_comm L, Int.mul_left_comm i]
    omega
  · have : (2 * (i * A) + L) / (2 * L) < i + 1 := by
      apply Int.ediv_lt_of_lt_mul (by omega)
      have : (i + 1) * (2 * L) = 2 * (i * L) + 2 * L := by rw [Int.add_mul, Int.one_mul, Int.mul_left_comm i]
      omega
    omega
theorem rS_succ (L A i : Int) (hL : 1 ≤ L) (hA0 : 0 ≤ A) (hA : A ≤ L) : rS L A i ≤ rS L A (i + 1) ∧ rS L A (i + 1) ≤ rS L A i + 1 := by
  have hc : 2 * i * A = 2 * (i * A) := Int.mul_assoc _ _ _
  have hd : 2 * (i + 1) * A = 2 * (i * A) + 2 * A := by rw [Int.mul_assoc, Int.add_mul, Int.one_mul, Int.mul_add]
  unfold rS
  rw [hc, hd]
  refine ⟨Int.ediv_le_ediv (by omega) (by omega), ?_⟩
  have h1 : (2 * (i * A) + L + 2 * L * 1) / (2 * L) = (2 * (i * A) + L) / (2 * L) + 1 := Int.add_mul_ediv_left _ _ (by omega)
  rw [← h1]
  exact Int.ediv_le_ediv (by omega) (by omega)
theorem rS_zero (L A : Int) (hL : 1 ≤ L) : rS L A 0 = 0 := by
  unfold rS
  rw [Int.mul_zero, Int.zero_mul, Int.zero_add]
  exact Int.ediv_eq_zero_of_lt (by omega) (by omega)
theorem rS_last (L A : Int) (hL : 1 ≤ L) (hA0 : 0 ≤ A) (hA : A ≤ L) : rS L A L = A := by
  have h := rS_rng L A L hL hA0 hA (by omega) (by omega)
  omega

def rL (ax ay bx b_y : Int) : Int := if apD ay b_y ≤ apD ax bx then apD ax bx else apD ay b_y
def rA (ax ay bx b_y : Int) : Int := if apD ay b_y ≤ apD ax bx then apD ay b_y else apD ax bx
def rX (ax ay bx b_y i : Int) : Int := if apD ay b_y ≤ apD ax bx then ax + i * apS ax bx else ax + rS (rL ax ay bx b_y) (rA ax ay bx b_y) i * apS ax bx
def rY (ax ay bx b_y i : Int) : Int := if apD ay b_y ≤ apD ax bx then ay + rS (rL ax ay bx b_y) (rA ax ay bx b_y) i * apS ay b_y else ay + i * apS ay b_y
theorem apS_mul (f t i : Int) : i * apS f t = if t < f then -i else i := by
  unfold apS; split <;> simp
theorem rL_rng (ax ay bx b_y : Int) (ha : canP ax ay) (hb : canP bx b_y) : 0 ≤ rA ax ay bx b_y ∧ rA ax ay bx b_y ≤ rL ax ay bx b_y ∧ rL ax ay bx b_y ≤ 1023 := by
  unfold canP at ha hb
  have h1 := apD_rng ax bx (by omega) (by omega) (by omega) (by omega)
  have h2 := apD_rng ay b_y (by omega) (by omega) (by omega) (by omega)
  unfold rA rL
  repeat' split
  all_goals omega

/-- Row's cells are the closed form's. -/
theorem row_cells (ax ay bx b_y : Int) (ha : canP ax ay) (hb : canP bx b_y) (w : World) :
    Calls Try.prog 27 #[.agg #[.int .i64 ax, .int .i64 ay], .agg #[.int .i64 bx, .int .i64 b_y]] w fun e w' => OwnedCells w (fun i => rX ax ay bx b_y i) (fun i => rY ax ay bx b_y i) ((rL ax ay bx b_y).toNat + 1) 0 e w' := by
  obtain ⟨q1, q2, q3⟩ := rL_rng ax ay bx b_y ha hb
  have ha' := ha
  have hb' := hb
  unfold canP at ha' hb'
  have hbet : BetC ax ay bx b_y #[.int .i64 ax, .int .i64 ay, .int .i64 (apS ax bx), .int .i64 (apS ay b_y), .int .i64 ((rL ax ay bx b_y).toNat : Nat), .int .i64 (rA ax ay bx b_y), .bool (decide (apD ay b_y ≤ apD ax bx))] := fun w =>
    between_any ax ay bx b_y _ _ _ _ _ _ _ w ha hb (hide rfl) (hide rfl) (hide rfl) (hide rfl) (hide ⟨fun h => ⟨decide_eq_true h, by rw [Int.toNat_of_nonneg (by omega), rL, if_pos h], by rw [rA, if_pos h]⟩, fun h => ⟨decide_eq_false (by omega), by rw [Int.toNat_of_nonneg (by omega), rL, if_neg (by omega)], by rw [rA, if_neg (by omega)]⟩⟩)
  refine row_ok ax ay bx b_y (apS ax bx) (apS ay b_y) (rA ax ay bx b_y) (rL ax ay bx b_y).toNat _ _ _ w ha hb (by omega) (hide hbet) (hide fun i hi w => ?_)
  have hN : (((rL ax ay bx b_y).toNat : Nat) : Int) = rL ax ay bx b_y := Int.toNat_of_nonneg (by omega)
  rw [hN]
  have hii : (i : Int) ≤ rL ax ay bx b_y := by omega
  by_cases h0 : rL ax ay bx b_y = 0
  · have hA0 : rA ax ay bx b_y = 0 := by omega
    have hi0 : i = 0 := by omega
    subst hi0
    have e1 : rX ax ay bx b_y ((0 : Nat) : Int) = ax := by unfold rX; rw [h0, hA0]; split <;> simp [rS]
    have e2 : rY ax ay bx b_y ((0 : Nat) : Int) = ay := by unfold rY; rw [h0, hA0]; split <;> simp [rS]
    show Calls _ _ _ w fun e w' => e = .returned (.agg #[.int .i64 (rX ax ay bx b_y ((0 : Nat) : Int)), .int .i64 (rY ax ay bx b_y ((0 : Nat) : Int))]) ∧ Below w.heap.size w w'
    rw [e1, e2, h0]
    exact at_zero ax ay _ _ _ _ _ w
  · have hs := rS_rng (rL ax ay bx b_y) (rA ax ay bx b_y) i (by omega) q1 q2 (by omega) hii
    have p0 := Int.mul_nonneg (show 0 ≤ (i : Int) by omega) q1
    have p1 := Int.mul_le_mul (show (i : Int) ≤ 1023 by omega) (show rA ax ay bx b_y ≤ 1023 by omega) q1 (by omega)
    have hP : 2 * (i : Int) * rA ax ay bx b_y = 2 * (i * rA ax ay bx b_y) := Int.mul_assoc _ _ _
    show Calls _ _ _ w fun e w' => e = .returned (.agg #[.int .i64 (rX ax ay bx b_y i), .int .i64 (rY ax ay bx b_y i)]) ∧ Below w.heap.size w w'
    by_cases hw : apD ay b_y ≤ apD ax bx
    · rw [decide_eq_true hw, rX, rY, if_pos hw, if_pos hw]
      have m1 := apS_mul ax bx i
      have m2 := apS_mul ay b_y (rS (rL ax ay bx b_y) (rA ax ay bx b_y) i)
      exact at_wide ax ay _ _ (rL ax ay bx b_y) (rA ax ay bx b_y) i (2 * i * rA ax ay bx b_y) (rS (rL ax ay bx b_y) (rA ax ay bx b_y) i) _ _ w (by omega) (by omega) (by omega) (by omega) (by omega) (by omega) (by omega) (by omega) rfl (by omega) (by omega) rfl (by omega) (by omega) rfl (by rw [m1]; split <;> omega) (by rw [m1]; split <;> omega) rfl (by rw [m2]; split <;> omega) (by rw [m2]; split <;> omega)
    · rw [decide_eq_false hw, rX, rY, if_neg hw, if_neg hw]
      have m1 := apS_mul ay b_y i
      have m2 := apS_mul ax bx (rS (rL ax ay bx b_y) (rA ax ay bx b_y) i)
      exact at_tall ax ay _ _ (rL ax ay bx b_y) (rA ax ay bx b_y) i (2 * i * rA ax ay bx b_y) (rS (rL ax ay bx b_y) (rA ax ay bx b_y) i) _ _ w (by omega) (by omega) (by omega) (by omega) (by omega) (by omega) (by omega) (by omega) rfl (by omega) (by omega) rfl (by omega) (by omega) rfl (by rw [m2]; split <;> omega) (by rw [m2]; split <;> omega) rfl (by rw [m1]; split <;> omega) (by rw [m1]; split <;> omega)
end Go.Proofs.Ytafokllnelibcaa
