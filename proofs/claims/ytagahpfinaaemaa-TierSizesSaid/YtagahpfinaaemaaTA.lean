/- The levels of a pyramid: plain facts, and contracts of tier.Levels and tier.Size. -/
import Derived.Test.YtagahpfinaaemaaRG
namespace Go.Proofs.Ytagahpfinaaemaa
open Go.RowKit Go.Lib

def hlf : Nat → Int → Int
  | 0, n => n
  | k + 1, n => (hlf k n + 1) / 2
theorem hlf_rng (k : Nat) (n : Int) (h0 : 1 ≤ n) (h1 : n ≤ 1024) : 1 ≤ hlf k n ∧ hlf k n ≤ 1024 := by
  induction k with
  | zero => exact ⟨h0, h1⟩
  | succ k ih => rw [hlf]; omega
theorem hlf_ten (n : Int) (h0 : 1 ≤ n) (h1 : n ≤ 1024) : hlf 10 n = 1 := by
  simp only [hlf]; omega
/-- The last level: the first one of a single cell. -/
def TopP (w h : Int) (L : Nat) : Prop := L ≤ 10 ∧ hlf L w ≤ 1 ∧ hlf L h ≤ 1 ∧ ∀ k, k < L → 1 < hlf k w ∨ 1 < hlf k h
theorem top_from (w h : Int) (m : Nat) : ∀ k, (∀ j, j < k → 1 < hlf j w ∨ 1 < hlf j h) → (hlf (k + m) w ≤ 1 ∧ hlf (k + m) h ≤ 1) → k + m ≤ 10 → ∃ L, TopP w h L := by
  induction m with
  | zero => exact fun k h1 h2 h3 => ⟨k, by omega, h2.1, h2.2, h1⟩
  | succ m ih =>
    intro k h1 h2 h3
    by_cases hk : hlf k w ≤ 1 ∧ hlf k h ≤ 1
    · exact ⟨k, by omega, hk.1, hk.2, h1⟩
    · refine ih (k + 1) (fun j hj => ?_) (by rw [show k + 1 + m = k + (m + 1) by omega]; exact h2) (by omega)
      by_cases hjk : j < k
      · exact h1 j hjk
      · obtain rfl : j = k := by omega
        omega
theorem top_ex (w h : Int) (hs : sizeP w h) : ∃ L, TopP w h L := by
  unfold sizeP at hs
  refine top_from w h 10 0 (fun j hj => absurd hj (by omega)) ?_ (by omega)
  rw [show 0 + 10 = 10 from rfl, hlf_ten w (by omega) (by omega), hlf_ten h (by omega) (by omega)]
  omega

theorem half_any (n : Int) (w : World) (h0 : 0 ≤ n) (h1 : n ≤ 1024) : Calls Try.prog 47 #[.int .i64 n] w fun e w' => e = .returned (.int .i64 ((n + 1) / 2)) ∧ w' = w := by
  go_enter Try.func47, Try.ntmps47
  go_wp2
  go_ret
  exact ⟨rfl, rfl⟩

theorem within_zero (n m : Int) : withinI 0 0 0 0 n m = if sizeP n m then 0 else 3 := by
  unfold withinI inP
  by_cases h : sizeP n m
  · rw [if_neg (by simpa using h), if_pos h]
    unfold sizeP at h
    repeat' split
    all_goals omega
  · rw [if_pos (by simpa using h), if_neg h]

theorem levels_no (n m : Int) (w : World) (h : ¬ sizeP n m) : Calls Try.prog 32 #[.int .i64 n, .int .i64 m] w fun e w' => e = .returned (.tuple #[.int .i64 0, .int .i64 3]) ∧ Below w.heap.size w w' := by
  go_enter Try.func32, Try.ntmps32
  go_wp2_with fail
  refine (within_any _ _ _ _ _ _ _).mono ?_
  rintro e w1 ⟨rfl, hb⟩
  rw [within_zero, if_neg h]
  go_wp2
  go_ret2
  exact ⟨rfl, hb⟩

set_option maxHeartbeats 1000000 in
theorem levels_yes (n m : Int) (L : Nat) (w : World) (h : sizeP n m) (hL : TopP n m L) : Calls Try.prog 32 #[.int .i64 n, .int .i64 m] w fun e w' => e = .returned (.tuple #[.int .i64 ((L : Int) + 1), .int .i64 0]) ∧ Below w.heap.size w w' := by
  obtain ⟨l1, l2, l3, l4⟩ := hL
  have HL := hide l4
  have H2 := hide l2
  have H3 := hide l3
  have Hs := hide h
  unfold sizeP at h
  have HR : Hid (∀ k, (1 ≤ hlf k n ∧ hlf k n ≤ 1024) ∧ (1 ≤ hlf k m ∧ hlf k m ≤ 1024)) := hide fun k => ⟨hlf_rng k n (by omega) (by omega), hlf_rng k m (by omega) (by omega)⟩
  clear l2 l3 l4
  go_enter Try.func32, Try.ntmps32
  go_wp2_with fail
  refine (within_any _ _ _ _ _ _ _).mono ?_
  rintro e w1 ⟨rfl, hb⟩
  rw [within_zero, if_pos Hs.out]
  go_wp2_with fail
  go_loop [0, 1, 7] (fun a b c => ∃ k : Nat, k ≤ L ∧ a = .int .i64 (hlf k n) ∧ b = .int .i64 (hlf k m) ∧ c = .int .i64 ((k : Int) + 1)) (fun _ _ c => (L + 1 - intOf c).toNat)
  case atStart => exact ⟨0, by omega, rfl, rfl, rfl⟩
  case round =>
    obtain ⟨k, hk, rfl, rfl, rfl⟩ := hrel
    obtain ⟨⟨r1, r2⟩, r3, r4⟩ := HR.out k
    have E1 := hide (show hlf (k + 1) n = (hlf k n + 1) / 2 from rfl)
    have E2 := hide (show hlf (k + 1) m = (hlf k m + 1) / 2 from rfl)
    by_cases hlt : k < L
    · have ht := HL.out k hlt
      generalize hlf k n = x at *
      generalize hlf k m = y at *
      have hsp : 1 < x ∨ (x ≤ 1 ∧ 1 < y) := by omega
      clear ht
      rcases hsp with hx | ⟨hx, hy⟩
      all_goals
        go_wp2_with (go_at_call 47; refine (half_any _ _ (by omega) (by omega)).mono ?_; rintro e w' ⟨rfl, rfl⟩)
        go_round
        case rel => exact ⟨k + 1, by omega, by rw [E1.out], by rw [E2.out], by go_num⟩
        case measure => simp [intOf]; omega
    · obtain rfl : k = L := by omega
      have h2 := H2.out
      have h3 := H3.out
      generalize hlf k n = x at *
      generalize hlf k m = y at *
      go_wp2
      go_ret2
      exact ⟨rfl, hb⟩
end Go.Proofs.Ytagahpfinaaemaa
