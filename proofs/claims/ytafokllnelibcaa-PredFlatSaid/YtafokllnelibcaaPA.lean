/- Contracts of pred.may, pred.Right, pred.guess. -/
import Derived.Test.YtafokllnelibcaaW
namespace Go.Proofs.Ytafokllnelibcaa
open Go.RowKit Go.Lib

def med (l a c : Int) : Int := min (max (l + a - c) (min l a)) (max l a)
/-- What a cell is likely to be, by the cells f ahead of it. -/
def gS (K W i : Nat) (f : Nat → Int) : Int :=
  if K = 0 ∨ i = 0 then 0 else if i % W = 0 then f (i - W) else if K = 1 ∨ i < W then f (i - 1) else med (f (i - 1)) (f (i - W)) (f (i - W - 1))
def mayP (v : Int) : Prop := -2147483648 ≤ v ∧ v ≤ 2147483647

theorem gS_may (K W i : Nat) (f : Nat → Int) (hW : 1 ≤ W) (h : ∀ j, j < i → mayP (f j)) : mayP (gS K W i f) := by
  unfold gS
  split
  · exact ⟨by decide, by decide⟩
  · split
    · exact h _ (by omega)
    · split
      · exact h _ (by omega)
      · have h1 := h (i - 1) (by omega)
        have h2 := h (i - W) (by omega)
        unfold mayP med at *
        omega

theorem gS_congr (K W i : Nat) (f g : Nat → Int) (hW : 1 ≤ W) (h : ∀ j, j < i → f j = g j) : gS K W i f = gS K W i g := by
  unfold gS
  by_cases h1 : K = 0 ∨ i = 0
  · rw [if_pos h1, if_pos h1]
  · rw [if_neg h1, if_neg h1, h (i - W) (by omega), h (i - 1) (by omega), h (i - W - 1) (by omega)]

theorem pmay_yes (v : Int) (w : World) (h : mayP v) : Calls Try.prog 40 #[.int .i64 v] w fun e w' => e = .returned (.bool true) ∧ w = w' := by
  obtain ⟨h1, h2⟩ := h
  go_enter Try.func40, Try.ntmps40
  go_wp2
  go_ret
  exact ⟨rfl, rfl⟩
theorem pmay_no (v : Int) (w : World) (h : ¬ mayP v) : Calls Try.prog 40 #[.int .i64 v] w fun e w' => e = .returned (.bool false) ∧ w = w' := by
  unfold mayP at h
  by_cases h1 : v < -2147483648
  · go_enter Try.func40, Try.ntmps40
    go_wp2
    go_ret
    exact ⟨rfl, rfl⟩
  · have hd : decide (v ≤ 2147483647) = false := by simp; omega
    go_enter Try.func40, Try.ntmps40
    go_wp2
    go_ret
    exact ⟨rfl, rfl⟩

def rightP (k W n : Int) : Prop := 0 ≤ k ∧ k ≤ 2 ∧ 1 ≤ W ∧ 0 ≤ n ∧ n % W = 0

theorem pright_yes (k W n : Int) (w : World) (h : rightP k W n) : Calls Try.prog 18 #[.int .i64 k, .int .i64 W, .int .i64 n] w fun e w' => e = .returned (.bool true) ∧ w = w' := by
  obtain ⟨h1, h2, h3, h4, h5⟩ := h
  have hb : (n % W == 0) = true := by simpa using h5
  clear h5
  go_enter Try.func18, Try.ntmps18
  go_wp2
  go_ret
  exact ⟨rfl, rfl⟩
theorem pright_no (k W n : Int) (w : World) (h : ¬ rightP k W n) : Calls Try.prog 18 #[.int .i64 k, .int .i64 W, .int .i64 n] w fun e w' => e = .returned (.bool false) ∧ w = w' := by
  by_cases h1 : 0 ≤ k
  · by_cases h2 : k ≤ 2
    · by_cases h3 : 1 ≤ W
      · by_cases h4 : 0 ≤ n
        · have hb : (n % W == 0) = false := by
            rw [beq_eq_false_iff_ne]; intro h5; exact h ⟨h1, h2, h3, h4, h5⟩
          clear h
          go_enter Try.func18, Try.ntmps18
          go_wp2
          go_ret
          exact ⟨rfl, rfl⟩
        · clear h
          go_enter Try.func18, Try.ntmps18
          go_wp2
          go_ret
          exact ⟨rfl, rfl⟩
      · clear h
        go_enter Try.func18, Try.ntmps18
        go_wp2
        go_ret
        exact ⟨rfl, rfl⟩
    · clear h
      go_enter Try.func18, Try.ntmps18
      go_wp2
      go_ret
      exact ⟨rfl, rfl⟩
  · clear h
    go_enter Try.func18, Try.ntmps18
    go_wp2
    go_ret
    exact ⟨rfl, rfl⟩

set_option maxHeartbeats 1600000 in
theorem guess_any (K W i n c b off : Nat) (f : Nat → Int) (w : World) (hK : K ≤ 2) (hW : 1 ≤ W) (hWm : W ≤ 9223372036854775807) (hi : i < n) (hnc : n ≤ c) (hcm : c ≤ 9223372036854775807)
    (hcell : ∀ j, j < i → w.cell? ⟨b, off + j, none⟩ = some (.int .i64 (f j))) (hf : ∀ j, j < i → mayP (f j)) :
    Calls Try.prog 41 #[.int .i64 K, .slice (some ⟨b, off, none⟩) n c, .int .i64 W, .int .i64 i] w fun e w' => e = .returned (.int .i64 (gS K W i f)) ∧ ∃ m, w' = w.drewN m := by
  by_cases h0 : K = 0 ∨ i = 0
  · have hs : gS K W i f = 0 := by unfold gS; rw [if_pos h0]
    rw [hs]
    by_cases h1 : K = 0
    · subst h1
      go_enter Try.func41, Try.ntmps41
      go_wp2
      go_ret
      exact ⟨rfl, 0, rfl⟩
    · obtain rfl : i = 0 := by omega
      have hk : ((K : Int) == 0) = false := by simp; omega
      go_enter Try.func41, Try.ntmps41
      go_wp2
      go_ret
      exact ⟨rfl, 0, rfl⟩
  · have hk : ((K : Int) == 0) = false := by simp; omega
    have hi0 : ((i : Int) == 0) = false := by simp; omega
    have hi1 : 1 ≤ i := by omega
    by_cases hm : i % W = 0
    · have hs : gS K W i f = f (i - W) := by unfold gS; rw [if_neg h0, if_pos hm]
      rw [hs]
      have hWi : W ≤ i := by
        rcases Nat.lt_or_ge i W with h | h
        · rw [Nat.mod_eq_of_lt h] at hm; omega
        · exact h
      have hmb : ((i : Int) % (W : Int) == 0) = true := by rw [beq_iff_eq]; omega
      have hc := hcell (i - W) (by omega)
      clear hm h0
      go_enter Try.func41, Try.ntmps41
      go_wp2
      go_ret
      exact ⟨rfl, 0, rfl⟩
    · have hmb : ((i : Int) % (W : Int) == 0) = false := by rw [beq_eq_false_iff_ne]; omega
      have hc := hcell (i - 1) (by omega)
      by_cases h1 : K = 1 ∨ i < W
      · have hs : gS K W i f = f (i - 1) := by unfold gS; rw [if_neg h0, if_neg hm, if_pos h1]
        rw [hs]
        clear hm h0
        by_cases h2 : K = 1
        · subst h2
          go_enter Try.func41, Try.ntmps41
          go_wp2
          go_ret
          exact ⟨rfl, 0, rfl⟩
        · have hk1 : ((K : Int) == 1) = false := by simp; omega
          have h3 : i < W := by omega
          go_enter Try.func41, Try.ntmps41
          go_wp2
          go_ret
          exact ⟨rfl, 0, rfl⟩
      · have hs : gS K W i f = med (f (i - 1)) (f (i - W)) (f (i - W - 1)) := by unfold gS; rw [if_neg h0, if_neg hm, if_neg h1]
        rw [hs]
        have hk1 : ((K : Int) == 1) = false := by simp; omega
        have hWi : W < i := by
          rcases Nat.lt_trichotomy W i with h | h | h
          · exact h
          · subst h; simp at hm
          · omega
        have hc2 := hcell (i - W) (by omega)
        have hc3 := hcell (i - W - 1) (by omega)
        obtain ⟨l0, l1⟩ := hf (i - 1) (by omega)
        obtain ⟨a0, a1⟩ := hf (i - W) (by omega)
        obtain ⟨c0, c1⟩ := hf (i - W - 1) (by omega)
        generalize f (i - 1) = l at *
        generalize f (i - W) = a at *
        generalize f (i - W - 1) = cc at *
        have i1 : (0 : Int) ≤ (i : Int) - 1 := by omega
        have i2 : (0 : Int) ≤ (i : Int) - W := by omega
        have i3 : (0 : Int) ≤ (i : Int) - W - 1 := by omega
        unfold med
        clear hm h0 hcell hf hs h1
        go_enter Try.func41, Try.ntmps41
        go_wp2
        go_quiet (fail)
        go_wp2
        all_goals
          go_ret
          refine ⟨ret_int ?_, _, rfl⟩
          first
            | omega
            | ((repeat' split at *) <;> omega)

end Go.Proofs.Ytafokllnelibcaa
