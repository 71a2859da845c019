/- Contracts of rect.Right, Area, Has, Meet, Hull, and of the document's own answers. -/
import Derived.Test.YtagahpfinaaemaaRA
import Derived.Deep.RegionWith
import Derived.StillTailTactics
namespace Go.Proofs.Ytagahpfinaaemaa
open Go.RowKit Go.Lib

theorem within_ok (x0 y0 x1 y1 : Int) : withinI x0 y0 x1 y1 1024 1024 = 0 ↔ okP x0 y0 x1 y1 := by
  unfold withinI sizeP inP okP
  repeat' split
  all_goals omega

theorem right_any (x0 y0 x1 y1 : Int) (w : World) : Calls Try.prog 12 #[.agg #[.int .i64 x0, .int .i64 y0, .int .i64 x1, .int .i64 y1]] w fun e w' => e = .returned (.bool (decide (okP x0 y0 x1 y1))) ∧ Below w.heap.size w w' := by
  go_enter Try.func12, Try.ntmps12
  go_wp2_with fail
  refine (within_any _ _ _ _ _ _ _).mono ?_
  rintro e w1 ⟨rfl, hb⟩
  generalize hq : withinI x0 y0 x1 y1 1024 1024 = q
  go_wp2
  all_goals
    go_ret
    refine ⟨ret_bool ?_, bal hb⟩
    have := within_ok x0 y0 x1 y1
    rw [hq] at this
    by_cases h0 : q = 0
    · rw [decide_eq_true (this.1 h0)]; simp [h0]
    · rw [decide_eq_false fun h => h0 (this.2 h)]; simp [h0]

def areaI (x0 y0 x1 y1 : Int) : Int := if okP x0 y0 x1 y1 then (x1 - x0 + 1) * (y1 - y0 + 1) else 0
theorem area_rng (x0 y0 x1 y1 : Int) : 0 ≤ areaI x0 y0 x1 y1 ∧ areaI x0 y0 x1 y1 ≤ 1048576 := by
  unfold areaI
  split
  · rename_i h
    unfold okP at h
    have h1 := Int.mul_le_mul (show x1 - x0 + 1 ≤ 1024 by omega) (show y1 - y0 + 1 ≤ 1024 by omega) (by omega) (by omega)
    have h2 := Int.mul_nonneg (show 0 ≤ x1 - x0 + 1 by omega) (show 0 ≤ y1 - y0 + 1 by omega)
    omega
  · omega

theorem width_any (x0 y0 x1 y1 : Int) (w : World) (h0 : 0 ≤ x0) (h1 : x0 ≤ 1024) (h2 : 0 ≤ x1) (h3 : x1 ≤ 1024) : Calls Try.prog 44 #[.agg #[.int .i64 x0, .int .i64 y0, .int .i64 x1, .int .i64 y1]] w fun e w' => e = .returned (.int .i64 (x1 - x0 + 1)) ∧ Below w.heap.size w w' := by
  go_enter Try.func44, Try.ntmps44
  go_wp2
  go_ret
  exact ⟨rfl, by first | exact (Below.refl _ _).alloc (Nat.le_refl _) _ | exact Below.refl _ _⟩

set_option maxHeartbeats 2000000 in
theorem area_yes (x0 y0 x1 y1 : Int) (w : World) (h : okP x0 y0 x1 y1) : Calls Try.prog 16 #[.agg #[.int .i64 x0, .int .i64 y0, .int .i64 x1, .int .i64 y1]] w fun e w' => e = .returned (.int .i64 ((x1 - x0 + 1) * (y1 - y0 + 1))) ∧ Below w.heap.size w w' := by
  have hr := area_rng x0 y0 x1 y1
  unfold areaI at hr
  rw [if_pos h] at hr
  have hk := hide h
  unfold okP at h
  obtain ⟨hr1, hr2⟩ := hr
  go_enter Try.func16, Try.ntmps16
  go_wp2_with fail
  refine (right_any _ _ _ _ _).mono ?_
  rintro e w1 ⟨rfl, hb⟩
  rw [decide_eq_true hk.out]
  have A1 : At w1 w.heap.size [.int .i64 x0, .int .i64 y0, .int .i64 x1, .int .i64 y1] := At.below At.new hb
  have hB := bal hb
  clear hb
  obtain ⟨c0, c1, c2, c3⟩ := A1.four
  generalize hm : (x1 - x0 + 1) * (y1 - y0 + 1) = m at *
  go_wp2_with fail
  have Ad := A1.drew
  have hBd := hB.drew
  go_region_with ((go_at_call 44; refine (width_any x0 y0 x1 y1 _ (by omega) (by omega) (by omega) (by omega)).mono ?_; rintro e wr ⟨rfl, hbr⟩; have Ar := Ad.below hbr; obtain ⟨d0, d1, d2, d3⟩ := Ar.four))
  all_goals
    have hBr := bchain hBd hbr
    clear hB hBd Ad A1 hbr c0 c1 c2 c3
    go_wp2
    go_ret
    have e1 := w64 (y1 - y0) (by omega) (by omega)
    have e2 := w64 (y1 - y0 + 1) (by omega) (by omega)
    have e3 := w64 ((x1 - x0 + 1) * (y1 - y0 + 1)) (by omega) (by omega)
    exact ⟨by rw [e1, e2, e3]; rfl, hBr⟩
theorem area_no (x0 y0 x1 y1 : Int) (w : World) (h : ¬ okP x0 y0 x1 y1) : Calls Try.prog 16 #[.agg #[.int .i64 x0, .int .i64 y0, .int .i64 x1, .int .i64 y1]] w fun e w' => e = .returned (.int .i64 0) ∧ Below w.heap.size w w' := by
  go_enter Try.func16, Try.ntmps16
  go_wp2_with fail
  refine (right_any _ _ _ _ _).mono ?_
  rintro e w1 ⟨rfl, hb⟩
  rw [decide_eq_false h]
  go_wp2
  go_ret
  exact ⟨rfl, bal hb⟩
theorem area_any (x0 y0 x1 y1 : Int) (w : World) : Calls Try.prog 16 #[.agg #[.int .i64 x0, .int .i64 y0, .int .i64 x1, .int .i64 y1]] w fun e w' => e = .returned (.int .i64 (areaI x0 y0 x1 y1)) ∧ Below w.heap.size w w' := by
  unfold areaI
  by_cases h : okP x0 y0 x1 y1
  · rw [if_pos h]; exact area_yes _ _ _ _ w h
  · rw [if_neg h]; exact area_no _ _ _ _ w h

theorem rarea_yes (x0 y0 x1 y1 : Int) (w : World) (h : okP x0 y0 x1 y1) : Calls Try.prog 17 #[.agg #[.int .i64 x0, .int .i64 y0, .int .i64 x1, .int .i64 y1]] w fun e w' => e = .returned (.int .i64 ((x1 - x0 + 1) * (y1 - y0 + 1))) ∧ Below w.heap.size w w' := by
  have hr := area_rng x0 y0 x1 y1
  unfold areaI at hr
  rw [if_pos h] at hr
  have hk := hide h
  unfold okP at h
  obtain ⟨hr1, hr2⟩ := hr
  rw [show x1 - x0 + 1 = x1 + 1 - x0 by omega, show y1 - y0 + 1 = y1 + 1 - y0 by omega] at *
  go_enter Try.func17, Try.ntmps17
  go_wp2_with fail
  refine (rright_any _ _ _ _ _).mono ?_
  rintro e w1 ⟨rfl, hb⟩
  rw [decide_eq_true hk.out]
  have A1 : At w1 w.heap.size [.int .i64 x0, .int .i64 y0, .int .i64 x1, .int .i64 y1] := At.below At.new hb
  have hB := bal hb
  clear hb
  obtain ⟨c0, c1, c2, c3⟩ := A1.four
  generalize hm : (x1 + 1 - x0) * (y1 + 1 - y0) = m at *
  go_wp2
  all_goals
    go_ret
    exact ⟨by subst hm; rfl, by first | exact hB | exact hB.drew⟩
theorem rarea_any (x0 y0 x1 y1 : Int) (w : World) : Calls Try.prog 17 #[.agg #[.int .i64 x0, .int .i64 y0, .int .i64 x1, .int .i64 y1]] w fun e w' => e = .returned (.int .i64 (areaI x0 y0 x1 y1)) ∧ Below w.heap.size w w' := by
  unfold areaI
  by_cases h : okP x0 y0 x1 y1
  · rw [if_pos h]; exact rarea_yes _ _ _ _ w h
  · rw [if_neg h]
    go_enter Try.func17, Try.ntmps17
    go_wp2_with fail
    refine (rright_any _ _ _ _ _).mono ?_
    rintro e w1 ⟨rfl, hb⟩
    rw [decide_eq_false h]
    go_wp2
    go_ret
    exact ⟨rfl, bal hb⟩

def hasP (x0 y0 x1 y1 x y : Int) : Prop := okP x0 y0 x1 y1 ∧ x0 ≤ x ∧ x ≤ x1 ∧ y0 ≤ y ∧ y ≤ y1
instance (x0 y0 x1 y1 x y : Int) : Decidable (hasP x0 y0 x1 y1 x y) := by unfold hasP; infer_instance
theorem has_any (x0 y0 x1 y1 x y : Int) (w : World) : Calls Try.prog 18 #[.agg #[.int .i64 x0, .int .i64 y0, .int .i64 x1, .int .i64 y1], .agg #[.int .i64 x, .int .i64 y]] w fun e w' => e = .returned (.bool (decide (hasP x0 y0 x1 y1 x y))) ∧ Below w.heap.size w w' := by
  go_enter Try.func18, Try.ntmps18
  go_wp2_with fail
  refine (right_any _ _ _ _ _).mono ?_
  rintro e w1 ⟨rfl, hb⟩
  have A1 : At w1 w.heap.size [.int .i64 x0, .int .i64 y0, .int .i64 x1, .int .i64 y1] := At.below (At.alloc At.new _) hb
  have A2 : At w1 (w.heap.size + 1) [.int .i64 x, .int .i64 y] := At.below (At.new_ (by simp)) hb
  have hB := bal (bal hb)
  clear hb
  by_cases h : okP x0 y0 x1 y1
  · rw [decide_eq_true h]
    obtain ⟨c0, c1, c2, c3⟩ := A1.four
    obtain ⟨e0, e1⟩ := A2.two
    go_wp2
    all_goals
      go_ret
      refine ⟨ret_bool ?_, by first | exact hB | exact hB.drew⟩
      first | exact dd (by simp only [hasP, h, true_and]; omega) | exact df (by simp only [hasP, h, true_and]; omega) | exact dt (by simp only [hasP, h, true_and]; omega)
  · rw [decide_eq_false h]
    go_wp2
    go_ret
    exact ⟨ret_bool (df fun h2 => h h2.1), hB⟩
end Go.Proofs.Ytagahpfinaaemaa
