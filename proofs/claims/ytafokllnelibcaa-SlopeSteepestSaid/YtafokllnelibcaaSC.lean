/- The chapter's example of slopes, and the law SlopeHides. -/
import Derived.Test.YtafokllnelibcaaSB
namespace Go.Proofs.Ytafokllnelibcaa
open Go.RowKit Go.Lib

theorem awake24 (w : World) : Calls Try.prog 32 #[] w fun e w' => e = .returned (.bool true) ∧ Below w.heap.size w w' := by
  go_enter Try.func32, Try.ntmps32
  go_wp2_with fail
  refine (cmp_ok 1 3 2 6 w (by omega) (by omega) (by omega) (by omega) (by omega) (by omega) (by omega) (by omega)).mono ?_
  rintro e w1 ⟨rfl, hb⟩
  rw [show cmp3 (1 * 6) (2 * 3) = 0 by decide]
  go_wp2_with fail
  refine (floor_ok (-1) 2 w1 (by omega) (by omega) (by omega) (by omega)).mono ?_
  rintro e w2 ⟨rfl, hb2⟩
  rw [show (-1 : Int) / 2 = -1 by decide]
  go_wp2
  go_ret
  exact ⟨rfl, bchain hb hb2⟩

theorem hides_arg (z f t i n : Int) (w : World) (h : n < 1 ∨ n > 1024 ∨ i < 0 ∨ i > n) :
    Calls Try.prog 38 #[.int .i64 z, .int .i64 f, .int .i64 t, .int .i64 i, .int .i64 n] w fun e w' => e = .returned (.tuple #[.bool false, .int .i64 11]) ∧ w = w' := by
  by_cases h1 : n < 1
  · go_enter Try.func38, Try.ntmps38
    go_wp2
    go_ret2
    exact ⟨rfl, rfl⟩
  · by_cases h2 : n > 1024
    · go_enter Try.func38, Try.ntmps38
      go_wp2
      go_ret2
      exact ⟨rfl, rfl⟩
    · by_cases h3 : i < 0
      · go_enter Try.func38, Try.ntmps38
        go_wp2
        go_ret2
        exact ⟨rfl, rfl⟩
      · have h4 : i > n := by omega
        go_enter Try.func38, Try.ntmps38
        go_wp2
        go_ret2
        exact ⟨rfl, rfl⟩

def mayI (v : Int) : Prop := -1099511627776 ≤ v ∧ v ≤ 1099511627776
instance (v : Int) : Decidable (mayI v) := by unfold mayI; infer_instance

theorem may_yes (v : Int) (w : World) (h : mayI v) : Calls Try.prog 52 #[.int .i64 v] w fun e w' => e = .returned (.bool true) ∧ w = w' := by
  obtain ⟨h1, h2⟩ := h
  go_enter Try.func52, Try.ntmps52
  go_wp2
  go_ret
  exact ⟨rfl, rfl⟩
theorem may_no (v : Int) (w : World) (h : ¬ mayI v) : Calls Try.prog 52 #[.int .i64 v] w fun e w' => e = .returned (.bool false) ∧ w = w' := by
  unfold mayI at h
  by_cases h1 : v < -1099511627776
  · go_enter Try.func52, Try.ntmps52
    go_wp2
    go_ret
    exact ⟨rfl, rfl⟩
  · have h2 : v > 1099511627776 := by omega
    have hd : decide (v ≤ 1099511627776) = false := by simp; omega
    go_enter Try.func52, Try.ntmps52
    go_wp2
    go_ret
    exact ⟨rfl, rfl⟩

theorem hides_val (z f t i n : Int) (w : World) (h1 : 1 ≤ n) (h2 : n ≤ 1024) (h3 : 0 ≤ i) (h4 : i ≤ n) (h : ¬ mayI z ∨ ¬ mayI f ∨ ¬ mayI t) :
    Calls Try.prog 38 #[.int .i64 z, .int .i64 f, .int .i64 t, .int .i64 i, .int .i64 n] w fun e w' => e = .returned (.tuple #[.bool false, .int .i64 7]) ∧ w = w' := by
  go_enter Try.func38, Try.ntmps38
  go_wp2_with fail
  by_cases hz : mayI z
  · refine (may_yes z w hz).mono ?_
    rintro e w ⟨rfl, rfl⟩
    go_wp2_with fail
    by_cases hf : mayI f
    · have ht : ¬ mayI t := by simpa [hz, hf] using h
      refine (may_yes f w hf).mono ?_
      rintro e w ⟨rfl, rfl⟩
      go_wp2_with fail
      refine (may_no t w ht).mono ?_
      rintro e w ⟨rfl, rfl⟩
      clear h
      go_wp2
      go_ret2
      exact ⟨rfl, rfl⟩
    · refine (may_no f w hf).mono ?_
      rintro e w ⟨rfl, rfl⟩
      clear h
      go_wp2
      go_ret2
      exact ⟨rfl, rfl⟩
  · refine (may_no z w hz).mono ?_
    rintro e w ⟨rfl, rfl⟩
    clear h
    go_wp2
    go_ret2
    exact ⟨rfl, rfl⟩

theorem prod_rng (d k : Int) (h0 : -2199023255552 ≤ d) (h1 : d ≤ 2199023255552) (h2 : 0 ≤ k) (h3 : k ≤ 1024) : -2251799813685248 ≤ d * k ∧ d * k ≤ 2251799813685248 := by
  have a := Int.mul_le_mul h1 h3 h2 (by omega)
  have b := Int.mul_le_mul (show -d ≤ 2199023255552 by omega) h3 h2 (by omega)
  rw [Int.neg_mul] at b
  omega

theorem hides_ok (z f t i n : Int) (w : World) (h1 : 1 ≤ n) (h2 : n ≤ 1024) (h3 : 0 ≤ i) (h4 : i ≤ n) (hz : mayI z) (hf : mayI f) (ht : mayI t) :
    Calls Try.prog 38 #[.int .i64 z, .int .i64 f, .int .i64 t, .int .i64 i, .int .i64 n] w fun e w' => e = .returned (.tuple #[.bool (decide ((t - f) * i < (z - f) * n)), .int .i64 0]) ∧ w = w' := by
  obtain ⟨z0, z1⟩ := id hz
  obtain ⟨f0, f1⟩ := id hf
  obtain ⟨t0, t1⟩ := id ht
  obtain ⟨p0, p1⟩ := prod_rng (z - f) n (by omega) (by omega) (by omega) (by omega)
  obtain ⟨q0, q1⟩ := prod_rng (t - f) i (by omega) (by omega) (by omega) (by omega)
  go_enter Try.func38, Try.ntmps38
  go_wp2_with fail
  refine (may_yes z w hz).mono ?_
  rintro e w ⟨rfl, rfl⟩
  go_wp2_with fail
  refine (may_yes f w hf).mono ?_
  rintro e w ⟨rfl, rfl⟩
  go_wp2_with fail
  refine (may_yes t w ht).mono ?_
  rintro e w ⟨rfl, rfl⟩
  go_wp2
  go_ret2
  exact ⟨rfl, rfl⟩

theorem cmp3_pos_iff (x y : Int) : decide (0 < cmp3 x y) = decide (y < x) := by
  unfold cmp3
  by_cases h : x < y
  · rw [if_pos h]; simp; omega
  · rw [if_neg h]
    by_cases h2 : x > y
    · rw [if_pos h2]; simp; omega
    · rw [if_neg h2]; simp; omega

set_option maxHeartbeats 2000000 in
theorem hides_law (z f t i n : Int) (w : World) (bz0 : -9223372036854775808 ≤ z) (bz1 : z ≤ 9223372036854775807) (bf0 : -9223372036854775808 ≤ f) (bf1 : f ≤ 9223372036854775807) (bt0 : -9223372036854775808 ≤ t) (bt1 : t ≤ 9223372036854775807) :
    Calls Try.prog 11 #[.int .i64 z, .int .i64 f, .int .i64 t, .int .i64 i, .int .i64 n] w fun e w' => e = .returned (.bool true) ∧ Below w.heap.size w w' := by
  go_enter Try.func11, Try.ntmps11
  go_wp2_with fail
  refine (awake24 w).mono ?_
  rintro e w1 ⟨rfl, hb⟩
  go_wp2_with fail
  by_cases ha : n < 1 ∨ n > 1024 ∨ i < 0 ∨ i > n
  · refine (hides_arg z f t i n w1 ha).mono ?_
    rintro e w1 ⟨rfl, rfl⟩
    go_wp2
    all_goals first
      | (exfalso; omega)
      | (go_ret; exact ⟨rfl, hb⟩)
  · by_cases hv : ¬ mayI z ∨ ¬ mayI f ∨ ¬ mayI t
    · refine (hides_val z f t i n w1 (by omega) (by omega) (by omega) (by omega) hv).mono ?_
      rintro e w1 ⟨rfl, rfl⟩
      unfold mayI at hv
      go_wp2
      all_goals first
        | (exfalso; omega)
        | (go_ret; exact ⟨rfl, hb⟩)
    · have hz : mayI z := by by_cases h : mayI z; exact h; exact absurd (.inl h) hv
      have hf : mayI f := by by_cases h : mayI f; exact h; exact absurd (.inr (.inl h)) hv
      have ht : mayI t := by by_cases h : mayI t; exact h; exact absurd (.inr (.inr h)) hv
      obtain ⟨z0, z1⟩ := id hz
      obtain ⟨f0, f1⟩ := id hf
      obtain ⟨t0, t1⟩ := id ht
      obtain ⟨p0, p1⟩ := prod_rng (z - f) n (by omega) (by omega) (by omega) (by omega)
      obtain ⟨q0, q1⟩ := prod_rng (t - f) i (by omega) (by omega) (by omega) (by omega)
      refine (hides_ok z f t i n w1 (by omega) (by omega) (by omega) (by omega) hz hf ht).mono ?_
      rintro e w1 ⟨rfl, rfl⟩
      have hz' : ¬ z < -1099511627776 := by omega
      clear hv hz hf ht
      by_cases hi : i = 0
      · subst hi
        have hpos : decide (0 < (z - f) * n) = decide (f < z) := by
          by_cases h : f < z
          · simp only [h, decide_true, decide_eq_true_eq]
            exact Int.mul_pos (by omega) (by omega)
          · simp only [h, decide_false, decide_eq_false_iff_not]
            have := Int.mul_nonneg (show 0 ≤ f - z by omega) (show 0 ≤ n by omega)
            rw [show f - z = -(z - f) by omega, Int.neg_mul] at this
            omega
        go_wp2
        go_ret
        exact ⟨rfl, hb⟩
      · go_wp2_with fail
        refine (cmp_ok (z - f) i (t - f) n w1 (by omega) (by omega) (by omega) (by omega) (by omega) (by omega) (by omega) (by omega)).mono ?_
        rintro e w2 ⟨rfl, hb2⟩
        have hc := cmp3_pos_iff ((z - f) * n) ((t - f) * i)
        go_wp2
        go_ret
        exact ⟨rfl, bchain hb hb2⟩

end Go.Proofs.Ytafokllnelibcaa
