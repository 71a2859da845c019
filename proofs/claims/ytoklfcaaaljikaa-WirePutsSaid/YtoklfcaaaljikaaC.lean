/- The law LebFolds: what is folded is unfolded. -/
import Derived.Test.YtoklfcaaaljikaaB
namespace Go.Proofs.Ytoklfcaaaljikaa
open Go.RowKit Go.Lib

theorem leb300 : lebB 9 300 = [172, 2] := by decide

theorem awake2 (w : World) : Calls Try.prog 9 #[] w fun e w' => e = .returned (.bool true) ∧ Below w.heap.size w w' := by
  go_enter Try.func9, Try.ntmps9
  go_wp2_with fail
  refine (put_any none 0 0 [] 300 w Reads.none_ (by omega) (by omega) (by omega)).mono ?_
  rintro e w1 ⟨v, rfl, hown, hb⟩
  rw [leb300] at hown
  obtain ⟨g, cap, rfl, hg, hlt, hnc, hm, hcell⟩ := own_form hown (by simp)
  have c0 : w1.cell? ⟨g, 0, none⟩ = some (.int .u8 172) := hcell 0 _ rfl
  have c1 : w1.cell? ⟨g, 1, none⟩ = some (.int .u8 2) := hcell 1 _ rfl
  clear hcell hown
  go_wp2
  go_ret
  exact ⟨rfl, hb⟩

theorem folds_law (a0 a1 : Int) (w : World) (h0 : -9223372036854775808 ≤ a0) (h1 : a0 ≤ 9223372036854775807) (h2 : 0 ≤ a1) (h3 : a1 ≤ 18446744073709551615) :
    Calls Try.prog 5 #[.int .i64 a0, .int .u64 a1] w fun e w' => e = .returned (.bool true) ∧ Below w.heap.size w w' := by
  obtain ⟨f0, f1⟩ := fold_rng a0 h0 h1
  obtain ⟨g0, g1⟩ := unfold_rng a1 h2 h3
  go_enter Try.func5, Try.ntmps5
  go_wp2_with fail
  refine (awake2 w).mono ?_
  rintro e w1 ⟨rfl, hb⟩
  go_wp2_with fail
  refine (fold_any a0 w1 h0 h1).mono ?_
  rintro e w1 ⟨rfl, rfl⟩
  go_wp2_with fail
  refine (rfold_any a0 w1 h0 h1).mono ?_
  rintro e w1 ⟨rfl, rfl⟩
  go_wp2_with fail
  refine (fold_any a0 w1 h0 h1).mono ?_
  rintro e w1 ⟨rfl, rfl⟩
  go_wp2_with fail
  refine (unfold_any (foldI a0) w1 f0 f1).mono ?_
  rintro e w1 ⟨rfl, rfl⟩
  rw [unfold_fold]
  go_wp2_with fail
  refine (unfold_any a1 w1 h2 h3).mono ?_
  rintro e w1 ⟨rfl, rfl⟩
  go_wp2_with fail
  refine (runfold_any a1 w1 h2 h3).mono ?_
  rintro e w1 ⟨rfl, rfl⟩
  go_wp2_with fail
  refine (unfold_any a1 w1 h2 h3).mono ?_
  rintro e w1 ⟨rfl, rfl⟩
  go_wp2_with fail
  refine (fold_any (unfoldI a1) w1 g0 g1).mono ?_
  rintro e w1 ⟨rfl, rfl⟩
  rw [fold_unfold a1 h2]
  go_wp2_with fail
  go_ret
  exact ⟨rfl, hb⟩

end Go.Proofs.Ytoklfcaaaljikaa
