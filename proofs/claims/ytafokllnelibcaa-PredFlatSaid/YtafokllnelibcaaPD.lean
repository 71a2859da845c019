/- Contracts of the document's own Right, May, Guess of layer 4. -/
import Derived.Test.YtafokllnelibcaaPC
namespace Go.Proofs.Ytafokllnelibcaa
open Go.RowKit Go.Lib

theorem rmay_yes (v : Int) (w : World) (h : mayP v) : Calls Try.prog 16 #[.int .i64 v] w fun e w' => e = .returned (.bool true) ∧ w = w' := by
  obtain ⟨h1, h2⟩ := h
  go_enter Try.func16, Try.ntmps16
  go_wp2
  go_ret
  exact ⟨rfl, rfl⟩
theorem rmay_no (v : Int) (w : World) (h : ¬ mayP v) : Calls Try.prog 16 #[.int .i64 v] w fun e w' => e = .returned (.bool false) ∧ w = w' := by
  unfold mayP at h
  by_cases h1 : v < -2147483648
  · go_enter Try.func16, Try.ntmps16
    go_wp2
    go_ret
    exact ⟨rfl, rfl⟩
  · have hd : decide (v ≤ 2147483647) = false := by simp; omega
    go_enter Try.func16, Try.ntmps16
    go_wp2
    go_ret
    exact ⟨rfl, rfl⟩

theorem rright_yes (k W n : Int) (w : World) (h : rightP k W n) : Calls Try.prog 15 #[.int .i64 k, .int .i64 W, .int .i64 n] w fun e w' => e = .returned (.bool true) ∧ w = w' := by
  obtain ⟨h1, h2, h3, h4, h5⟩ := h
  have hb : (n % W == 0) = true := by simpa using h5
  clear h5
  rcases (by omega : k = 0 ∨ k = 1 ∨ k = 2) with rfl | rfl | rfl
  · go_enter Try.func15, Try.ntmps15
    go_wp2
    go_ret
    exact ⟨rfl, rfl⟩
  · go_enter Try.func15, Try.ntmps15
    go_wp2
    go_ret
    exact ⟨rfl, rfl⟩
  · go_enter Try.func15, Try.ntmps15
    go_wp2
    go_ret
    exact ⟨rfl, rfl⟩

theorem rright_no (k W n : Int) (w : World) (h : ¬ rightP k W n) : Calls Try.prog 15 #[.int .i64 k, .int .i64 W, .int .i64 n] w fun e w' => e = .returned (.bool false) ∧ w = w' := by
  by_cases hk : k = 0 ∨ k = 1 ∨ k = 2
  · have hf : ¬ (0 < W) ∨ (0 < W ∧ n < 0) ∨ (0 < W ∧ 0 ≤ n ∧ (n % W == 0) = false) := by
      by_cases h3 : 0 < W
      · by_cases h4 : 0 ≤ n
        · exact .inr (.inr ⟨h3, h4, by rw [beq_eq_false_iff_ne]; intro h5; exact h ⟨by omega, by omega, by omega, h4, h5⟩⟩)
        · exact .inr (.inl ⟨h3, by omega⟩)
      · exact .inl h3
    clear h
    rcases hf with h3 | ⟨h3, h4⟩ | ⟨h3, h4, h5⟩
    · have hd : decide (0 < W) = false := by simp; omega
      rcases hk with rfl | rfl | rfl
      · go_enter Try.func15, Try.ntmps15
        go_wp2
        go_ret
        exact ⟨rfl, rfl⟩
      · go_enter Try.func15, Try.ntmps15
        go_wp2
        go_ret
        exact ⟨rfl, rfl⟩
      · go_enter Try.func15, Try.ntmps15
        go_wp2
        go_ret
        exact ⟨rfl, rfl⟩
    · have hd : decide (0 ≤ n) = false := by simp; omega
      rcases hk with rfl | rfl | rfl
      · go_enter Try.func15, Try.ntmps15
        go_wp2
        go_ret
        exact ⟨rfl, rfl⟩
      · go_enter Try.func15, Try.ntmps15
        go_wp2
        go_ret
        exact ⟨rfl, rfl⟩
      · go_enter Try.func15, Try.ntmps15
        go_wp2
        go_ret
        exact ⟨rfl, rfl⟩
    · rcases hk with rfl | rfl | rfl
      · go_enter Try.func15, Try.ntmps15
        go_wp2
        go_ret
        exact ⟨rfl, rfl⟩
      · go_enter Try.func15, Try.ntmps15
        go_wp2
        go_ret
        exact ⟨rfl, rfl⟩
      · go_enter Try.func15, Try.ntmps15
        go_wp2
        go_ret
        exact ⟨rfl, rfl⟩
  · have k0 : (k == 0) = false := by simp; omega
    have k1 : (k == 1) = false := by simp; omega
    have k2 : (k == 2) = false := by simp; omega
    clear h hk
    go_enter Try.func15, Try.ntmps15
    go_wp2
    go_ret
    exact ⟨rfl, rfl⟩

theorem at_any (W j n c b off : Nat) (x y v : Int) (w : World) (hj : j < n) (hn : n ≤ 1000000) (hnc : n ≤ c) (hcm : c ≤ 9223372036854775807) (h0 : 0 ≤ y * W) (h1 : y * W ≤ 1000000) (hx : -1 ≤ x) (hx2 : x ≤ 1000000) (e : y * W + x = j)
    (hc : w.cell? ⟨b, off + j, none⟩ = some (.int .i64 v)) :
    Calls Try.prog 42 #[.slice (some ⟨b, off, none⟩) n c, .int .i64 W, .int .i64 x, .int .i64 y] w fun e w' => e = .returned (.int .i64 v) ∧ w = w' := by
  go_enter Try.func42, Try.ntmps42
  go_wp2
  go_ret
  exact ⟨rfl, rfl⟩

set_option maxHeartbeats 3200000 in
theorem rguess_any (K W i n c b off : Nat) (f : Nat → Int) (w : World) (hK : K ≤ 2) (hW : 1 ≤ W) (hWm : W ≤ 9223372036854775807) (hi : i ≤ n) (hn : n ≤ 1000000) (hnc : n ≤ c) (hcm : c ≤ 9223372036854775807)
    (hcell : ∀ j, j < i → w.cell? ⟨b, off + j, none⟩ = some (.int .i64 (f j))) (hf : ∀ j, j < i → mayP (f j)) :
    Calls Try.prog 17 #[.int .i64 K, .slice (some ⟨b, off, none⟩) n c, .int .i64 W, .int .i64 i] w fun e w' => e = .returned (.int .i64 (gS K W i f)) ∧ ∃ m, w' = w.drewN m := by
  obtain ⟨X, hX⟩ : ∃ X : Nat, X = i % W := ⟨_, rfl⟩
  obtain ⟨Y, hY⟩ : ∃ Y : Nat, Y = i / W := ⟨_, rfl⟩
  have hXW : X < W := by rw [hX]; exact Nat.mod_lt _ (by omega)
  have hXY : Y * W + X = i := by rw [hX, hY, Nat.mul_comm]; exact Nat.div_add_mod i W
  have cX : ((i : Int) % (W : Int)) = X := by rw [hX]; omega
  have cY : ((i : Int) / (W : Int)) = Y := by rw [hY]; omega
  have hYi : Y ≤ i := by rw [hY]; exact Nat.div_le_self _ _
  have HXY := hide hXY
  have HC := hide hcell
  have HF := hide hf
  have hXi : X ≤ i := by omega
  have CX := hide cX
  have P6 : X = 0 ↔ i % W = 0 := by rw [hX]
  clear hX hY hXY hcell hf cX
  have P0 : (Y : Int) * W + X = i := by have := HXY.out; exact_mod_cast this
  have P1 : ((Y : Int) - 1) * W = Y * W - W := by rw [Int.sub_mul, Int.one_mul]
  have P2 : 0 ≤ (Y : Int) * W := Int.mul_nonneg (by omega) (by omega)
  have P3 : i < W → Y = 0 := fun h => by have := HXY.out; rcases Nat.eq_zero_or_pos Y with h2 | h2; exact h2; exact absurd (Nat.le_mul_of_pos_left W h2) (by omega)
  have P4 : Y = 0 → i < W := fun h => by have := HXY.out; rw [h] at this; omega
  have P5 : 1 ≤ Y → W ≤ i := fun h => by have := HXY.out; have := Nat.le_mul_of_pos_left W h; omega
  have P7 : 1 ≤ Y → (W : Int) ≤ (Y : Int) * W := fun h => by have := Nat.le_mul_of_pos_left W h; exact_mod_cast this
  have HP0 := hide P0
  have HP1 := hide P1
  clear P0 P1
  by_cases h0 : K = 0 ∨ i = 0
  · have hs : gS K W i f = 0 := by unfold gS; rw [if_pos h0]
    rw [hs]
    by_cases h1 : K = 0
    · subst h1
      clear P3 P4 P5 P6 P7 hs
      go_enter Try.func17, Try.ntmps17
      go_wp2
      go_quiet (fail)
      rw [CX.out]
      go_wp2
      go_ret
      exact ⟨rfl, _, rfl⟩
    · have hk : ((K : Int) == 0) = false := by simp; omega
      have hi0 : i = 0 := by omega
      have hx0 : X = 0 := by omega
      have hy0 : Y = 0 := by omega
      subst hx0 hy0
      clear P3 P4 P5 P6 P7 hs h0 hi0
      go_enter Try.func17, Try.ntmps17
      go_wp2
      go_quiet (fail)
      rw [CX.out]
      go_wp2
      go_ret
      exact ⟨rfl, _, rfl⟩
  · have hk : ((K : Int) == 0) = false := by simp; omega
    by_cases hm : i % W = 0
    · have hs : gS K W i f = f (i - W) := by unfold gS; rw [if_neg h0, if_pos hm]
      rw [hs]
      obtain rfl : X = 0 := by omega
      have hY1 : 1 ≤ Y := by
        have := HXY.out
        rcases Nat.eq_zero_or_pos Y with h | h
        · subst h; omega
        · exact h
      have hyb : ((Y : Int) == 0) = false := by simp; omega
      have hWi := P5 hY1
      have e1 := HP1.out
      have e0 := HP0.out
      have q1 : 0 ≤ ((Y : Int) - 1) * W := by omega
      have q2 : ((Y : Int) - 1) * W ≤ 1000000 := by omega
      have q3 : ((Y : Int) - 1) * W + (0 : Int) = ((i - W : Nat) : Int) := by omega
      have Q3 := hide q3
      clear P3 P4 P5 P6 P7 hs h0 hm e1 e0 q3
      go_enter Try.func17, Try.ntmps17
      go_wp2
      go_quiet (fail)
      rw [CX.out]
      go_wp2_with fail
      refine (at_any W (i - W) n c b off 0 ((Y : Int) - 1) (f (i - W)) _ (by omega) hn hnc hcm q1 q2 (by omega) (by omega) Q3.out (by exact HC.out (i - W) (by omega))).mono ?_
      rintro e w' ⟨rfl, rfl⟩
      go_wp2
      go_ret
      exact ⟨rfl, _, rfl⟩
    · have hX1 : 1 ≤ X := by omega
      have hxb : ((X : Int) == 0) = false := by simp; omega
      have hl : (Y : Int) * W + ((X : Int) - 1) = ((i - 1 : Nat) : Int) := by have := HP0.out; omega
      have HL := hide hl
      have hq2 : (Y : Int) * W ≤ 1000000 := by have := HP0.out; omega
      have hmf := HF.out (i - 1) (by omega)
      have hcl := HC.out (i - 1) (by omega)
      by_cases h1 : K = 1 ∨ i < W
      · have hs : gS K W i f = f (i - 1) := by unfold gS; rw [if_neg h0, if_neg hm, if_pos h1]
        rw [hs]
        by_cases h2 : K = 1
        · subst h2
          clear P3 P4 P5 P6 P7 hs h0 hm hl h1
          go_enter Try.func17, Try.ntmps17
          go_wp2
          go_quiet (fail)
          rw [CX.out]
          go_wp2_with fail
          refine (at_any W (i - 1) n c b off ((X : Int) - 1) Y (f (i - 1)) _ (by omega) hn hnc hcm P2 hq2 (by omega) (by omega) HL.out (by exact hcl)).mono ?_
          rintro e w' ⟨rfl, rfl⟩
          go_wp2
          go_ret
          exact ⟨rfl, _, rfl⟩
        · have hk1 : ((K : Int) == 1) = false := by simp; omega
          obtain rfl : Y = 0 := P3 (by omega)
          clear P3 P4 P5 P6 P7 hs h0 hm hl h1
          go_enter Try.func17, Try.ntmps17
          go_wp2
          go_quiet (fail)
          rw [CX.out]
          go_wp2_with fail
          refine (at_any W (i - 1) n c b off ((X : Int) - 1) (0 : Nat) (f (i - 1)) _ (by omega) hn hnc hcm P2 hq2 (by omega) (by omega) HL.out (by exact hcl)).mono ?_
          rintro e w' ⟨rfl, rfl⟩
          go_wp2
          go_ret
          exact ⟨rfl, _, rfl⟩
      · have hs : gS K W i f = med (f (i - 1)) (f (i - W)) (f (i - W - 1)) := by unfold gS; rw [if_neg h0, if_neg hm, if_neg h1]
        rw [hs]
        have hk1 : ((K : Int) == 1) = false := by simp; omega
        have hY1 : 1 ≤ Y := by
          rcases Nat.eq_zero_or_pos Y with h | h
          · have := P4 h; omega
          · exact h
        have hyb : ((Y : Int) == 0) = false := by simp; omega
        have hWi := P5 hY1
        have hWi2 : W < i := by
          rcases Nat.lt_trichotomy W i with h | h | h
          · exact h
          · subst h; simp at hm
          · omega
        have e1 := HP1.out
        have e0 := HP0.out
        have hWY := P7 hY1
        have q1 : 0 ≤ ((Y : Int) - 1) * W := by omega
        have q2 : ((Y : Int) - 1) * W ≤ 1000000 := by omega
        have Q3 := hide (show ((Y : Int) - 1) * W + (X : Int) = ((i - W : Nat) : Int) by omega)
        have Q4 := hide (show ((Y : Int) - 1) * W + ((X : Int) - 1) = ((i - W - 1 : Nat) : Int) by omega)
        have hc2 := HC.out (i - W) (by omega)
        have hc3 := HC.out (i - W - 1) (by omega)
        obtain ⟨l0, l1⟩ := HF.out (i - 1) (by omega)
        obtain ⟨a0, a1⟩ := HF.out (i - W) (by omega)
        obtain ⟨c0, c1⟩ := HF.out (i - W - 1) (by omega)
        generalize f (i - 1) = l at *
        generalize f (i - W) = a at *
        generalize f (i - W - 1) = cc at *
        clear P3 P4 P5 P6 P7 hs h0 hm e1 e0 hl h1 hmf
        go_enter Try.func17, Try.ntmps17
        go_wp2
        go_quiet (fail)
        rw [CX.out]
        go_wp2_with fail
        refine (at_any W (i - 1) n c b off ((X : Int) - 1) Y l _ (by omega) hn hnc hcm P2 hq2 (by omega) (by omega) HL.out (by exact hcl)).mono ?_
        rintro e w' ⟨rfl, rfl⟩
        go_wp2_with fail
        refine (at_any W (i - W) n c b off X ((Y : Int) - 1) a _ (by omega) hn hnc hcm q1 q2 (by omega) (by omega) Q3.out (by exact hc2)).mono ?_
        rintro e w' ⟨rfl, rfl⟩
        go_wp2_with fail
        refine (at_any W (i - W - 1) n c b off ((X : Int) - 1) ((Y : Int) - 1) cc _ (by omega) hn hnc hcm q1 q2 (by omega) (by omega) Q4.out (by exact hc3)).mono ?_
        rintro e w' ⟨rfl, rfl⟩
        go_wp2
        all_goals
          go_ret
          refine ⟨ret_int ?_, _, rfl⟩
          unfold med
          omega


theorem rguess_zero (K W n c : Nat) (A : Option Addr) (f : Nat → Int) (w : World) (hW : 1 ≤ W) (hWm : W ≤ 9223372036854775807) :
    Calls Try.prog 17 #[.int .i64 K, .slice A n c, .int .i64 W, .int .i64 (0 : Nat)] w fun e w' => e = .returned (.int .i64 (gS K W 0 f)) ∧ ∃ m, w' = w.drewN m := by
  have hs : gS K W 0 f = 0 := by unfold gS; rw [if_pos (.inr rfl)]
  rw [hs]
  have c1 : ((0 : Int) % (W : Int)) = 0 := by simp
  have c2 : ((0 : Int) / (W : Int)) = 0 := by simp
  by_cases h1 : K = 0
  · subst h1
    go_enter Try.func17, Try.ntmps17
    go_wp2
    go_quiet (fail)
    go_wp2
    go_ret
    exact ⟨rfl, _, rfl⟩
  · have hk : ((K : Int) == 0) = false := by simp; omega
    go_enter Try.func17, Try.ntmps17
    go_wp2
    go_quiet (fail)
    go_wp2
    go_ret
    exact ⟨rfl, _, rfl⟩

end Go.Proofs.Ytafokllnelibcaa
