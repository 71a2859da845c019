/- Steps, ends and turns of the closed form: plain facts. -/
import Derived.Test.YtafokllnelibcaaYD
namespace Go.Proofs.Ytafokllnelibcaa
open Go.RowKit Go.Lib

theorem apS_cases (f t : Int) : (t < f ∧ apD f t = f - t ∧ ∀ i, i * apS f t = -i) ∨ (f ≤ t ∧ apD f t = t - f ∧ ∀ i, i * apS f t = i) := by
  by_cases h : t < f
  · exact .inl ⟨h, by rw [apD, if_pos h], fun i => by rw [apS_mul, if_pos h]⟩
  · exact .inr ⟨by omega, by rw [apD, if_neg h], fun i => by rw [apS_mul, if_neg h]⟩

/-- All that the walks want of the closed form at one number. -/
theorem ray_at (ax ay bx b_y i : Int) (ha : canP ax ay) (hb : canP bx b_y) (h0 : 0 ≤ i) (h1 : i ≤ rL ax ay bx b_y) :
    canP (rX ax ay bx b_y i) (rY ax ay bx b_y i) ∧ rlenI (rX ax ay bx b_y i) (rY ax ay bx b_y i) bx b_y = rL ax ay bx b_y - i := by
  obtain ⟨q1, q2, q3⟩ := rL_rng ax ay bx b_y ha hb
  unfold canP at *
  unfold rX rY rlenI absI
  by_cases hz : rL ax ay bx b_y = 0
  · have hi : i = 0 := by omega
    have hA : rA ax ay bx b_y = 0 := by omega
    have hs : rS 0 0 0 = 0 := by decide
    rw [hz, hA, hi, hs]
    unfold rL at hz
    unfold rA at hA
    rcases apS_cases ax bx with ⟨c1, c2, c3⟩ | ⟨c1, c2, c3⟩ <;> rcases apS_cases ay b_y with ⟨d1, d2, d3⟩ | ⟨d1, d2, d3⟩ <;> rw [c3, d3] <;> split at hz <;> repeat' split
    all_goals omega
  · have hs := rS_rng (rL ax ay bx b_y) (rA ax ay bx b_y) i (by omega) q1 q2 h0 h1
    generalize rS (rL ax ay bx b_y) (rA ax ay bx b_y) i = s at *
    by_cases hw : apD ay b_y ≤ apD ax bx
    · rw [if_pos hw, if_pos hw]
      unfold rL rA at *
      rw [if_pos hw] at *
      rcases apS_cases ax bx with ⟨c1, c2, c3⟩ | ⟨c1, c2, c3⟩ <;> rcases apS_cases ay b_y with ⟨d1, d2, d3⟩ | ⟨d1, d2, d3⟩ <;> rw [c3, d3] <;> repeat' split
      all_goals omega
    · rw [if_neg hw, if_neg hw]
      unfold rL rA at *
      rw [if_neg hw] at *
      rcases apS_cases ax bx with ⟨c1, c2, c3⟩ | ⟨c1, c2, c3⟩ <;> rcases apS_cases ay b_y with ⟨d1, d2, d3⟩ | ⟨d1, d2, d3⟩ <;> rw [c3, d3] <;> repeat' split
      all_goals omega
theorem ray_zero (ax ay bx b_y : Int) (ha : canP ax ay) (hb : canP bx b_y) : rX ax ay bx b_y 0 = ax ∧ rY ax ay bx b_y 0 = ay := by
  obtain ⟨q1, q2, q3⟩ := rL_rng ax ay bx b_y ha hb
  have hs : rS (rL ax ay bx b_y) (rA ax ay bx b_y) 0 = 0 := by
    by_cases h : rL ax ay bx b_y = 0
    · rw [h, show rA ax ay bx b_y = 0 by omega]; decide
    · exact rS_zero _ _ (by omega)
  unfold rX rY
  rw [hs]
  split <;> simp
theorem ray_last (ax ay bx b_y : Int) (ha : canP ax ay) (hb : canP bx b_y) : rX ax ay bx b_y (rL ax ay bx b_y) = bx ∧ rY ax ay bx b_y (rL ax ay bx b_y) = b_y := by
  obtain ⟨q1, q2, q3⟩ := rL_rng ax ay bx b_y ha hb
  have h := (ray_at ax ay bx b_y (rL ax ay bx b_y) ha hb (by omega) (Int.le_refl _)).2
  unfold rlenI absI at h
  repeat' split at h
  all_goals omega
theorem ray_step (ax ay bx b_y i : Int) (ha : canP ax ay) (hb : canP bx b_y) (h0 : 0 ≤ i) (h1 : i + 1 ≤ rL ax ay bx b_y) :
    -1 ≤ rX ax ay bx b_y (i + 1) - rX ax ay bx b_y i ∧ rX ax ay bx b_y (i + 1) - rX ax ay bx b_y i ≤ 1 ∧ -1 ≤ rY ax ay bx b_y (i + 1) - rY ax ay bx b_y i ∧ rY ax ay bx b_y (i + 1) - rY ax ay bx b_y i ≤ 1 ∧
      ¬ (rX ax ay bx b_y (i + 1) - rX ax ay bx b_y i = 0 ∧ rY ax ay bx b_y (i + 1) - rY ax ay bx b_y i = 0) := by
  obtain ⟨q1, q2, q3⟩ := rL_rng ax ay bx b_y ha hb
  have hs := rS_succ (rL ax ay bx b_y) (rA ax ay bx b_y) i (by omega) q1 q2
  unfold rX rY
  by_cases hw : apD ay b_y ≤ apD ax bx
  · rw [if_pos hw, if_pos hw, if_pos hw, if_pos hw]
    rcases apS_cases ax bx with ⟨c1, c2, c3⟩ | ⟨c1, c2, c3⟩ <;> rcases apS_cases ay b_y with ⟨d1, d2, d3⟩ | ⟨d1, d2, d3⟩ <;> rw [c3, c3, d3, d3]
    all_goals omega
  · rw [if_neg hw, if_neg hw, if_neg hw, if_neg hw]
    rcases apS_cases ax bx with ⟨c1, c2, c3⟩ | ⟨c1, c2, c3⟩ <;> rcases apS_cases ay b_y with ⟨d1, d2, d3⟩ | ⟨d1, d2, d3⟩ <;> rw [c3, c3, d3, d3]
    all_goals omega

/-- Columns and rows changed for one another. -/
theorem ray_swap (ax ay bx b_y i : Int) (ha : canP ax ay) (hb : canP bx b_y) (h0 : 0 ≤ i) (h1 : i ≤ rL ax ay bx b_y) :
    rL ay ax b_y bx = rL ax ay bx b_y ∧ rX ay ax b_y bx i = rY ax ay bx b_y i ∧ rY ay ax b_y bx i = rX ax ay bx b_y i := by
  obtain ⟨q1, q2, q3⟩ := rL_rng ax ay bx b_y ha hb
  by_cases hd : apD ax bx = apD ay b_y
  · have e1 : rL ay ax b_y bx = apD ax bx := by unfold rL; rw [hd]; split <;> rfl
    have e2 : rL ax ay bx b_y = apD ax bx := by unfold rL; rw [hd]; split <;> rfl
    have e3 : rA ay ax b_y bx = apD ax bx := by unfold rA; rw [hd]; split <;> rfl
    have e4 : rA ax ay bx b_y = apD ax bx := by unfold rA; rw [hd]; split <;> rfl
    have hs : rS (apD ax bx) (apD ax bx) i = i := by
      by_cases hz : apD ax bx = 0
      · have : i = 0 := by omega
        rw [hz, this]; decide
      · have := rS_rng (apD ax bx) (apD ax bx) i (by omega) (by omega) (by omega) h0 (by omega)
        omega
    unfold rX rY
    rw [e1, e2, e3, e4, hs, if_pos (by omega), if_pos (by omega), if_pos (by omega), if_pos (by omega)]
    exact ⟨rfl, rfl, rfl⟩
  · have e1 : rL ay ax b_y bx = rL ax ay bx b_y := by unfold rL; split <;> split <;> omega
    have e2 : rA ay ax b_y bx = rA ax ay bx b_y := by unfold rA; split <;> split <;> omega
    unfold rX rY
    rw [e1, e2]
    by_cases hw : apD ay b_y ≤ apD ax bx
    · rw [if_pos hw, if_pos hw, if_neg (by omega), if_neg (by omega)]
      exact ⟨rfl, rfl, rfl⟩
    · rw [if_neg hw, if_neg hw, if_pos (by omega), if_pos (by omega)]
      exact ⟨rfl, rfl, rfl⟩

/-- All columns mirrored. -/
theorem ray_mirror (ax ay bx b_y i : Int) (ha : canP ax ay) (hb : canP bx b_y) (h0 : 0 ≤ i) (h1 : i ≤ rL ax ay bx b_y) :
    rL (1023 - ax) ay (1023 - bx) b_y = rL ax ay bx b_y ∧ rX (1023 - ax) ay (1023 - bx) b_y i = 1023 - rX ax ay bx b_y i ∧ rY (1023 - ax) ay (1023 - bx) b_y i = rY ax ay bx b_y i := by
  obtain ⟨q1, q2, q3⟩ := rL_rng ax ay bx b_y ha hb
  have e0 : apD (1023 - ax) (1023 - bx) = apD ax bx := by unfold apD; split <;> split <;> omega
  have e1 : rL (1023 - ax) ay (1023 - bx) b_y = rL ax ay bx b_y := by unfold rL; rw [e0]
  have e2 : rA (1023 - ax) ay (1023 - bx) b_y = rA ax ay bx b_y := by unfold rA; rw [e0]
  refine ⟨e1, ?_, by unfold rY; rw [e0, e1, e2]⟩
  unfold rX
  rw [e0, e1, e2]
  by_cases hz : rL ax ay bx b_y = 0
  · have hi : i = 0 := by omega
    have hA : rA ax ay bx b_y = 0 := by omega
    have hs : rS 0 0 0 = 0 := by decide
    rw [hz, hA, hi, hs]
    split <;> simp
  · have hs := rS_rng (rL ax ay bx b_y) (rA ax ay bx b_y) i (by omega) q1 q2 h0 h1
    generalize rS (rL ax ay bx b_y) (rA ax ay bx b_y) i = s at *
    unfold rL rA at *
    rcases apS_cases ax bx with ⟨c1, c2, c3⟩ | ⟨c1, c2, c3⟩ <;> rcases apS_cases (1023 - ax) (1023 - bx) with ⟨d1, d2, d3⟩ | ⟨d1, d2, d3⟩ <;> rw [c3, d3] <;> rw [c3, d3] <;> split <;> rename_i hw
    all_goals first | omega | (rw [if_pos hw] at *; omega) | (rw [if_neg hw] at *; omega)

def RowC (ax ay bx b_y : Int) (N : Nat) (X Y : Nat → Int) : Prop := ∀ w : World,
  Calls Try.prog 27 #[.agg #[.int .i64 ax, .int .i64 ay], .agg #[.int .i64 bx, .int .i64 b_y]] w fun e w' => OwnedCells w X Y (N + 1) 0 e w'
theorem rowC_of (ax ay bx b_y : Int) (N : Nat) (ha : canP ax ay) (hb : canP bx b_y) (hN : (N : Int) = rL ax ay bx b_y) : RowC ax ay bx b_y N (fun i => rX ax ay bx b_y i) (fun i => rY ax ay bx b_y i) := fun w => by
  have := row_cells ax ay bx b_y ha hb w
  rw [show (rL ax ay bx b_y).toNat = N by omega] at this
  exact this

/-- What the law of steps wants of a row. -/
theorem row_steps (ax ay bx b_y : Int) (ha : canP ax ay) (hb : canP bx b_y) : ∃ (N : Nat) (X Y : Nat → Int), N ≤ 1023 ∧ RowC ax ay bx b_y N X Y ∧ X 0 = ax ∧ Y 0 = ay ∧ X N = bx ∧ Y N = b_y ∧
    (∀ i, i ≤ N → canP (X i) (Y i) ∧ rlenI (X i) (Y i) bx b_y = N - i) ∧
    ∀ i, i < N → -1 ≤ X (i + 1) - X i ∧ X (i + 1) - X i ≤ 1 ∧ -1 ≤ Y (i + 1) - Y i ∧ Y (i + 1) - Y i ≤ 1 ∧ ¬ (X (i + 1) - X i = 0 ∧ Y (i + 1) - Y i = 0) := by
  obtain ⟨q1, q2, q3⟩ := rL_rng ax ay bx b_y ha hb
  obtain ⟨N, hN⟩ : ∃ N : Nat, (N : Int) = rL ax ay bx b_y := ⟨_, Int.toNat_of_nonneg (by omega)⟩
  refine ⟨N, _, _, by omega, rowC_of ax ay bx b_y N ha hb hN, (ray_zero ax ay bx b_y ha hb).1, (ray_zero ax ay bx b_y ha hb).2, ?_, ?_, fun i hi => ?_, fun i hi => ?_⟩
  · show rX ax ay bx b_y N = bx
    rw [hN]; exact (ray_last ax ay bx b_y ha hb).1
  · show rY ax ay bx b_y N = b_y
    rw [hN]; exact (ray_last ax ay bx b_y ha hb).2
  · have := ray_at ax ay bx b_y i ha hb (by omega) (by omega)
    rw [← hN] at this
    exact this
  · exact ray_step ax ay bx b_y i ha hb (by omega) (by omega)

/-- What the law of turns wants of three rows. -/
theorem row_turns (ax ay bx b_y : Int) (ha : canP ax ay) (hb : canP bx b_y) : ∃ (N : Nat) (X Y X1 Y1 X2 Y2 : Nat → Int), N ≤ 1023 ∧ RowC ax ay bx b_y N X Y ∧ RowC ay ax b_y bx N X1 Y1 ∧ RowC (1023 - ax) ay (1023 - bx) b_y N X2 Y2 ∧
    ∀ i, i ≤ N → canP (X i) (Y i) ∧ X1 i = Y i ∧ Y1 i = X i ∧ X2 i = 1023 - X i ∧ Y2 i = Y i := by
  obtain ⟨q1, q2, q3⟩ := rL_rng ax ay bx b_y ha hb
  obtain ⟨N, hN⟩ : ∃ N : Nat, (N : Int) = rL ax ay bx b_y := ⟨_, Int.toNat_of_nonneg (by omega)⟩
  have s0 := ray_swap ax ay bx b_y 0 ha hb (by omega) (by omega)
  have m0 := ray_mirror ax ay bx b_y 0 ha hb (by omega) (by omega)
  refine ⟨N, _, _, _, _, _, _, by omega, rowC_of ax ay bx b_y N ha hb hN, rowC_of ay ax b_y bx N (by unfold canP at *; omega) (by unfold canP at *; omega) (by rw [s0.1]; exact hN), rowC_of (1023 - ax) ay (1023 - bx) b_y N (by unfold canP at *; omega) (by unfold canP at *; omega) (by rw [m0.1]; exact hN), fun i hi => ?_⟩
  have s := ray_swap ax ay bx b_y i ha hb (by omega) (by omega)
  have m := ray_mirror ax ay bx b_y i ha hb (by omega) (by omega)
  exact ⟨(ray_at ax ay bx b_y i ha hb (by omega) (by omega)).1, s.2.1, s.2.2, m.2.1, m.2.2⟩
end Go.Proofs.Ytafokllnelibcaa
