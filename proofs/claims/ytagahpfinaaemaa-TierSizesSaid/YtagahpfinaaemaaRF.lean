/- The chapter's example of layer 7. -/
import Derived.Test.YtagahpfinaaemaaRE
namespace Go.Proofs.Ytagahpfinaaemaa
open Go.RowKit Go.Lib

theorem pieces_ex (w : World) : Calls Try.prog 26 #[.agg #[.int .i64 14, .int .i64 3, .int .i64 17, .int .i64 3]] w fun e w' => ∃ g cap, e = .returned (.slice (some ⟨g, 0, none⟩) 2 cap) ∧ At w' g [.int .i64 14, .int .i64 3, .int .i64 15, .int .i64 3, .int .i64 16, .int .i64 3, .int .i64 17, .int .i64 3] ∧ Below w.heap.size w w' := by
  refine (pieces_ok 14 3 17 3 w (by unfold okP; omega)).mono ?_
  rintro e w' ⟨v, n, rfl, hown, hb⟩
  rw [pie_ex] at hown
  have hn : n = 2 := by have := hown.1; simp at this; omega
  subst hn
  obtain ⟨g, cap, rfl, h1, h2, h3, h4, h5⟩ := own_form_n hown (by omega)
  exact ⟨g, cap, rfl, ⟨h2, fun j u hu => h5 j u hu, fun j => hown.frozenAt j⟩, hb⟩

set_option maxHeartbeats 400000 in
theorem awake7_ok (w : World) : Calls Try.prog 11 #[] w fun e w' => e = .returned (.bool true) ∧ Below w.heap.size w w' := by
  go_enter Try.func11, Try.ntmps11
  go_wp2_with fail
  refine (pieces_ex _).mono ?_
  rintro e w1 ⟨g, cap, rfl, hA, hb⟩
  have c0 : w1.cell? ⟨g, 0, none⟩ = some (.int .i64 14) := hA.2.1 0 _ rfl
  have c1 : w1.cell? ⟨g, 1, none⟩ = some (.int .i64 3) := hA.2.1 1 _ rfl
  have c2 : w1.cell? ⟨g, 2, none⟩ = some (.int .i64 15) := hA.2.1 2 _ rfl
  have c3 : w1.cell? ⟨g, 3, none⟩ = some (.int .i64 3) := hA.2.1 3 _ rfl
  have c4 : w1.cell? ⟨g, 4, none⟩ = some (.int .i64 16) := hA.2.1 4 _ rfl
  have c5 : w1.cell? ⟨g, 5, none⟩ = some (.int .i64 3) := hA.2.1 5 _ rfl
  have c6 : w1.cell? ⟨g, 6, none⟩ = some (.int .i64 17) := hA.2.1 6 _ rfl
  have c7 : w1.cell? ⟨g, 7, none⟩ = some (.int .i64 3) := hA.2.1 7 _ rfl
  clear hA
  go_wp2
  go_ret
  exact ⟨rfl, hb⟩
end Go.Proofs.Ytagahpfinaaemaa
