/- Contracts of the small functions of rect, and of the document's own answers. -/
import Derived.Test.YtagahpfinaaemaaWS
namespace Go.Proofs.Ytagahpfinaaemaa
open Go.RowKit Go.Lib

theorem dt {p : Prop} [Decidable p] (h : p) : true = decide p := (decide_eq_true h).symm
theorem df {p : Prop} [Decidable p] (h : ¬ p) : false = decide p := (decide_eq_false h).symm
theorem dd {p q : Prop} [Decidable p] [Decidable q] (h : q ↔ p) : decide q = decide p := decide_eq_decide.2 h

def sizeP (w h : Int) : Prop := 1 ≤ w ∧ w ≤ 1024 ∧ 1 ≤ h ∧ h ≤ 1024
instance (w h : Int) : Decidable (sizeP w h) := by unfold sizeP; infer_instance
def inP (p n : Int) : Prop := 0 ≤ p ∧ p < n
instance (p n : Int) : Decidable (inP p n) := by unfold inP; infer_instance
def withinI (x0 y0 x1 y1 w h : Int) : Int :=
  if ¬ sizeP w h then 3 else if ¬ inP x0 w ∨ ¬ inP x1 w ∨ ¬ inP y0 h ∨ ¬ inP y1 h then 4 else if x1 < x0 ∨ y1 < y0 then 5 else 0
def okP (x0 y0 x1 y1 : Int) : Prop := 0 ≤ x0 ∧ x0 ≤ x1 ∧ x1 < 1024 ∧ 0 ≤ y0 ∧ y0 ≤ y1 ∧ y1 < 1024
instance (x0 y0 x1 y1 : Int) : Decidable (okP x0 y0 x1 y1) := by unfold okP; infer_instance

theorem size_any (n m : Int) (w : World) : Calls Try.prog 42 #[.int .i64 n, .int .i64 m] w fun e w' => e = .returned (.bool (decide (sizeP n m))) ∧ w = w' := by
  go_enter Try.func42, Try.ntmps42
  go_wp2
  all_goals
    go_ret
    refine ⟨ret_bool ?_, rfl⟩
    first | exact dd (by unfold sizeP; omega) | exact df (by unfold sizeP; omega) | exact dt (by unfold sizeP; omega)

theorem in_any (p n : Int) (w : World) : Calls Try.prog 43 #[.int .i64 p, .int .i64 n] w fun e w' => e = .returned (.bool (decide (inP p n))) ∧ w = w' := by
  go_enter Try.func43, Try.ntmps43
  go_wp2
  all_goals
    go_ret
    refine ⟨ret_bool ?_, rfl⟩
    first | exact dd (by unfold inP; omega) | exact df (by unfold inP; omega) | exact dt (by unfold inP; omega)

theorem rright_any (x0 y0 x1 y1 : Int) (w : World) : Calls Try.prog 13 #[.agg #[.int .i64 x0, .int .i64 y0, .int .i64 x1, .int .i64 y1]] w fun e w' => e = .returned (.bool (decide (okP x0 y0 x1 y1))) ∧ Below w.heap.size w w' := by
  go_enter Try.func13, Try.ntmps13
  go_wp2
  all_goals
    go_ret
    refine ⟨ret_bool ?_, ?_⟩
    · first | exact dd (by unfold okP; omega) | exact df (by unfold okP; omega) | exact dt (by unfold okP; omega)
    · first | exact (Below.refl _ _).alloc (Nat.le_refl _) _ | exact Below.refl _ _

theorem int_ite {k : IntKind} {p : Prop} [Decidable p] {a b : Int} {e : Ending} (h1 : p → e = .returned (.int k a)) (h2 : ¬ p → e = .returned (.int k b)) : e = .returned (.int k (if p then a else b)) := by
  split
  · exact h1 ‹_›
  · exact h2 ‹_›

set_option maxHeartbeats 1000000 in
theorem within_any (x0 y0 x1 y1 n m : Int) (w : World) : Calls Try.prog 14 #[.agg #[.int .i64 x0, .int .i64 y0, .int .i64 x1, .int .i64 y1], .int .i64 n, .int .i64 m] w fun e w' => e = .returned (.int .i64 (withinI x0 y0 x1 y1 n m)) ∧ Below w.heap.size w w' := by
  go_enter Try.func14, Try.ntmps14
  go_wp2_with (first
    | (go_at_call 42; refine (size_any _ _ _).mono ?_; rintro e w ⟨rfl, rfl⟩)
    | (go_at_call 43; refine (in_any _ _ _).mono ?_; rintro e w ⟨rfl, rfl⟩))
  all_goals
    go_ret
    refine ⟨ret_int ?_, ?_⟩
    · unfold withinI
      simp_all
    · first | exact (Below.refl _ _).alloc (Nat.le_refl _) _ | exact Below.refl _ _

set_option maxHeartbeats 1000000 in
theorem rwithin_any (x0 y0 x1 y1 n m : Int) (w : World) : Calls Try.prog 15 #[.agg #[.int .i64 x0, .int .i64 y0, .int .i64 x1, .int .i64 y1], .int .i64 n, .int .i64 m] w fun e w' => e = .returned (.int .i64 (withinI x0 y0 x1 y1 n m)) ∧ Below w.heap.size w w' := by
  go_enter Try.func15, Try.ntmps15
  go_wp2
  all_goals
    go_ret
    refine ⟨ret_int ?_, ?_⟩
    · unfold withinI sizeP inP
      repeat' split
      all_goals first | rfl | omega
    · first | exact (Below.refl _ _).alloc (Nat.le_refl _) _ | exact Below.refl _ _
end Go.Proofs.Ytagahpfinaaemaa
