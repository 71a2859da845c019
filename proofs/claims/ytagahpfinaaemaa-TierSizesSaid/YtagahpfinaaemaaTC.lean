/- Contracts of tier.has and tier.Span, and the chapter's example of layer 15. -/
import Derived.Test.YtagahpfinaaemaaTB
import Derived.StillTailTactics
namespace Go.Proofs.Ytagahpfinaaemaa
open Go.RowKit Go.Lib

theorem has15_no (n m k x y : Int) (w : World) (h : ¬ sizeP n m) : Calls Try.prog 48 #[.int .i64 n, .int .i64 m, .int .i64 k, .agg #[.int .i64 x, .int .i64 y]] w fun e w' => e = .returned (.int .i64 3) ∧ Below w.heap.size w w' := by
  go_enter Try.func48, Try.ntmps48
  go_wp2_with fail
  refine (size15_no _ _ _ _ h).mono ?_
  rintro e w1 ⟨rfl, hb⟩
  go_wp2
  go_ret
  exact ⟨rfl, bal hb⟩
theorem has15_arg (n m k x y : Int) (L : Nat) (w : World) (h : sizeP n m) (hL : TopP n m L) (hk : k < 0 ∨ (L : Int) < k) : Calls Try.prog 48 #[.int .i64 n, .int .i64 m, .int .i64 k, .agg #[.int .i64 x, .int .i64 y]] w fun e w' => e = .returned (.int .i64 11) ∧ Below w.heap.size w w' := by
  go_enter Try.func48, Try.ntmps48
  go_wp2_with fail
  refine (size15_arg _ _ _ L _ h hL hk).mono ?_
  rintro e w1 ⟨rfl, hb⟩
  go_wp2
  go_ret
  exact ⟨rfl, bal hb⟩
def hasC (k : Nat) (n m x y : Int) : Int := if 0 ≤ x ∧ x < hlf k n ∧ 0 ≤ y ∧ y < hlf k m then 0 else 4
theorem has15_yes (n m x y : Int) (k L : Nat) (w : World) (h : sizeP n m) (hL : TopP n m L) (hk : k ≤ L) : Calls Try.prog 48 #[.int .i64 n, .int .i64 m, .int .i64 k, .agg #[.int .i64 x, .int .i64 y]] w fun e w' => e = .returned (.int .i64 (hasC k n m x y)) ∧ Below w.heap.size w w' := by
  have HS : Hid (∀ w : World, Calls Try.prog 33 #[.int .i64 n, .int .i64 m, .int .i64 k] w fun e w' => e = .returned (.tuple #[.int .i64 (hlf k n), .int .i64 (hlf k m), .int .i64 0]) ∧ Below w.heap.size w w') := hide fun w => size15_yes n m k L w h hL hk
  unfold hasC
  generalize hlf k n = p at *
  generalize hlf k m = q at *
  clear hL h
  by_cases hc : 0 ≤ x ∧ x < p ∧ 0 ≤ y ∧ y < q
  · rw [if_pos hc]
    obtain ⟨h1, h2, h3, h4⟩ := hc
    go_enter Try.func48, Try.ntmps48
    go_wp2_with fail
    refine (HS.out _).mono ?_
    rintro e w1 ⟨rfl, hb⟩
    have A1 : At w1 w.heap.size [.int .i64 x, .int .i64 y] := At.below At.new hb
    have hB := bal hb
    clear hb
    obtain ⟨c0, c1⟩ := A1.two
    go_wp2
    go_ret
    exact ⟨rfl, hB⟩
  · rw [if_neg hc]
    have hs : x < 0 ∨ (0 ≤ x ∧ p ≤ x) ∨ (0 ≤ x ∧ x < p ∧ y < 0) ∨ (0 ≤ x ∧ x < p ∧ 0 ≤ y ∧ q ≤ y) := by omega
    clear hc
    rcases hs with h1 | ⟨h1, h2⟩ | ⟨h1, h2, h3⟩ | ⟨h1, h2, h3, h4⟩
    all_goals
      go_enter Try.func48, Try.ntmps48
      go_wp2_with fail
      refine (HS.out _).mono ?_
      rintro e w1 ⟨rfl, hb⟩
      have A1 : At w1 w.heap.size [.int .i64 x, .int .i64 y] := At.below At.new hb
      have hB := bal hb
      clear hb
      obtain ⟨c0, c1⟩ := A1.two
      go_wp2
      go_ret
      exact ⟨rfl, hB⟩

theorem top_ex53 : TopP 5 3 3 := ⟨by omega, by decide, by decide, by decide⟩
set_option maxRecDepth 100000 in
set_option maxHeartbeats 1000000 in
theorem span_ex (w : World) : Calls Try.prog 35 #[.int .i64 5, .int .i64 3, .int .i64 1, .agg #[.int .i64 2, .int .i64 1]] w fun e w' => e = .returned (.tuple #[.agg #[.int .i64 4, .int .i64 2, .int .i64 4, .int .i64 2], .int .i64 0]) ∧ Below w.heap.size w w' := by
  go_enter Try.func35, Try.ntmps35
  go_wp2_with fail
  refine (has15_yes 5 3 2 1 1 3 _ (by unfold sizeP; omega) top_ex53 (by omega)).mono ?_
  rintro e w1 ⟨rfl, hb⟩
  rw [show hasC 1 5 3 2 1 = 0 from by decide]
  have A1 : At w1 w.heap.size [.int .i64 2, .int .i64 1] := At.below (At.alloc At.new _) hb
  have A2 : At w1 (w.heap.size + 1) [.int .i64 0, .int .i64 0, .int .i64 0, .int .i64 0] := At.below (At.new_ (by simp)) hb
  have hB := bal (bal hb)
  clear hb
  go_wp2_with fail
  have A1d := A1.drew
  have A2d := A2.drew
  have hBd := hB.drew
  clear A1 A2 hB
  obtain ⟨c0, c1⟩ := A1d.two
  refine wp_region_still_tail 24 (by kernel_rfl) (by kernel_rfl) ?_
  simp only [List.take_succ_cons, List.take_zero, List.drop_succ_cons, List.drop_zero]
  show wpStill Try.prog _ w1.drew (fun a' => wpList Try.prog _ _ _ a' w1.drew) _ _
  generalize w1.drew = U at *
  repeat still_step
  refine wpStill_nil ?_
  obtain ⟨n0, n1, n2, n3⟩ := A2d.four
  obtain ⟨f0, f1, f2, f3, fs⟩ := A2d.fr4
  go_wp2_with fail
  exact bodyPost_ret (v := .tuple #[.agg #[.int .i64 4, .int .i64 2, .int .i64 4, .int .i64 2], .int .i64 0]) (by simp [results, Try.results35, go_sem, n0, n1, n2, n3, f0, f1, f2, f3, fs]; decide) rfl ⟨rfl, by repeat first | exact hBd | refine below_put ?_ | refine Below.setCell ?_ (by go_size) _⟩

theorem awake15_ok (w : World) : Calls Try.prog 31 #[] w fun e w' => e = .returned (.bool true) ∧ Below w.heap.size w w' := by
  go_enter Try.func31, Try.ntmps31
  go_wp2_with fail
  refine (levels_yes 5 3 3 _ (by unfold sizeP; omega) top_ex53).mono ?_
  rintro e w1 ⟨rfl, hb⟩
  go_wp2_with fail
  refine (span_ex _).mono ?_
  rintro e w2 ⟨rfl, hb2⟩
  have hB := bchain hb hb2
  clear hb hb2
  go_wp2
  go_ret
  exact ⟨rfl, below_put hB⟩
end Go.Proofs.Ytagahpfinaaemaa
