/- Contract of the document's own Has. -/
import Derived.Test.YtagahpfinaaemaaRF
namespace Go.Proofs.Ytagahpfinaaemaa
open Go.RowKit Go.Lib

theorem rhas_any (x0 y0 x1 y1 x y : Int) (w : World) : Calls Try.prog 19 #[.agg #[.int .i64 x0, .int .i64 y0, .int .i64 x1, .int .i64 y1], .agg #[.int .i64 x, .int .i64 y]] w fun e w' => e = .returned (.bool (decide (hasP x0 y0 x1 y1 x y))) ∧ Below w.heap.size w w' := by
  go_enter Try.func19, Try.ntmps19
  go_wp2_with fail
  refine (rright_any _ _ _ _ _).mono ?_
  rintro e w1 ⟨rfl, hb⟩
  have A1 : At w1 w.heap.size [.int .i64 x0, .int .i64 y0, .int .i64 x1, .int .i64 y1] := At.below (At.alloc At.new _) hb
  have A2 : At w1 (w.heap.size + 1) [.int .i64 x, .int .i64 y] := At.below (At.new_ (by simp)) hb
  have hB := bal (bal hb)
  clear hb
  by_cases h : okP x0 y0 x1 y1
  · rw [decide_eq_true h]
    obtain ⟨c0, c1, c2, c3⟩ := A1.four
    obtain ⟨e0, e1⟩ := A2.two
    go_wp2
    all_goals
      go_ret
      refine ⟨ret_bool ?_, by first | exact hB | exact hB.drew⟩
      first | exact dd (by simp only [hasP, h, true_and]; omega) | exact df (by simp only [hasP, h, true_and]; omega) | exact dt (by simp only [hasP, h, true_and]; omega)
  · rw [decide_eq_false h]
    go_wp2
    go_ret
    exact ⟨ret_bool (df fun h2 => h h2.1), hB⟩
end Go.Proofs.Ytagahpfinaaemaa
