/- The law SlopeCompares. -/
import Derived.Test.YtafokllnelibcaaSD
namespace Go.Proofs.Ytafokllnelibcaa
open Go.RowKit Go.Lib

/-- The two slopes that came in, boxed. -/
structure Boxes (b : Nat) (au ao bu bo : Int) (wk : World) : Prop where
  c0 : wk.cell? ⟨b, 0, none⟩ = some (.int .i64 au)
  c1 : wk.cell? ⟨b, 1, none⟩ = some (.int .i64 ao)
  c2 : wk.cell? ⟨b + 1, 0, none⟩ = some (.int .i64 bu)
  c3 : wk.cell? ⟨b + 1, 1, none⟩ = some (.int .i64 bo)
  sz : b + 2 ≤ wk.heap.size
theorem Boxes.below {b : Nat} {au ao bu bo : Int} {wk w' : World} (h : Boxes b au ao bu bo wk) (hb : Below wk.heap.size wk w') : Boxes b au ao bu bo w' :=
  ⟨by rw [hb.cell (p := ⟨b, 0, none⟩) (by have := h.sz; simp; omega)]; exact h.c0, by rw [hb.cell (p := ⟨b, 1, none⟩) (by have := h.sz; simp; omega)]; exact h.c1,
   by rw [hb.cell (p := ⟨b + 1, 0, none⟩) (by have := h.sz; simp; omega)]; exact h.c2, by rw [hb.cell (p := ⟨b + 1, 1, none⟩) (by have := h.sz; simp; omega)]; exact h.c3, Nat.le_trans h.sz hb.size⟩

set_option maxRecDepth 100000 in
set_option maxHeartbeats 3200000 in
theorem compares_bad (au ao bu bo : Int) (w : World) (hbad : ao < 1 ∨ bo < 1) (h0 : -9223372036854775808 ≤ au) (h1 : -9223372036854775808 ≤ bu) (h2 : au ≤ 9223372036854775807) (h3 : bu ≤ 9223372036854775807) (h4 : ao ≤ 9223372036854775807) (h5 : bo ≤ 9223372036854775807) :
    Calls Try.prog 10 #[.agg #[.int .i64 au, .int .i64 ao], .agg #[.int .i64 bu, .int .i64 bo]] w fun e w' => e = .returned (.bool true) ∧ Below w.heap.size w w' := by
  go_enter Try.func10, Try.ntmps10
  go_wp2_with fail
  obtain ⟨W0, hW0⟩ : ∃ W0, W0 = (w.alloc (.cells #[.int .i64 au, .int .i64 ao] 51)).alloc (.cells #[.int .i64 bu, .int .i64 bo] 51) := ⟨_, rfl⟩
  have hB0 : Below w.heap.size w W0 := by rw [hW0]; exact ((Below.refl _ _).alloc (Nat.le_refl _) _).alloc (by simp) _
  have hX0 : Boxes w.heap.size au ao bu bo W0 := by
    subst hW0
    exact ⟨by go_simp, by go_simp, by go_simp, by go_simp, by simp⟩
  rw [← hW0]
  clear hW0
  refine (awake24 W0).mono ?_
  rintro e w1 ⟨rfl, hb1⟩
  have hB1 := hB0.trans (hb1.mono hB0.size)
  have hX1 := hX0.below hb1
  clear hb1 hX0 hB0
  obtain ⟨c0, c1, c2, c3, sz⟩ := id hX1
  go_wp2_with fail
  refine (cmp_bad au ao bu bo w1 hbad).mono ?_
  rintro e w2 ⟨rfl, hb2⟩
  have hB2 := hB1.trans (hb2.mono hB1.size)
  have hX2 := hX1.below hb2
  clear hb2 hX1 hB1 c0 c1 c2 c3 sz
  obtain ⟨c0, c1, c2, c3, sz⟩ := id hX2
  go_wp2_with fail
  refine (cmp_bad bu bo au ao w2 (by omega)).mono ?_
  rintro e w3 ⟨rfl, hb3⟩
  have hB3 := hB2.trans (hb3.mono hB2.size)
  have hX3 := hX2.below hb3
  clear hb3 hX2 hB2 c0 c1 c2 c3 sz
  obtain ⟨c0, c1, c2, c3, sz⟩ := id hX3
  go_wp2_with fail
  by_cases ha : ao < 1
  · have hd : decide (1 ≤ ao) = false := by simp; omega
    refine (floor_bad au ao w3 ha).mono ?_
    rintro e w4 ⟨rfl, hb4⟩
    have hB4 := hB3.trans (hb4.mono hB3.size)
    have hX4 := hX3.below hb4
    clear hb4 hX3 hB3 c0 c1 c2 c3 sz
    have hXd : Boxes w.heap.size au ao bu bo w4.drew := ⟨hX4.c0, hX4.c1, hX4.c2, hX4.c3, hX4.sz⟩
    have hBd := hB4.drew
    obtain ⟨c0, c1, c2, c3, sz⟩ := id hX4
    go_wp2_with fail
    go_region_with ((go_at_call 35; refine (right_any au ao _).mono ?_; rintro e wr ⟨rfl, hbr⟩; have hXr := hXd.below hbr; obtain ⟨d0, d1, d2, d3, dz⟩ := id hXr))
    all_goals
      have hBr := hBd.trans (hbr.mono hBd.size)
      clear hXd hBd hbr hX4 hB4 c0 c1 c2 c3 sz
      go_wp2
      go_ret
      exact ⟨rfl, hBr⟩
  · have hb' : bo < 1 := by omega
    have hd : decide (1 ≤ ao) = true := by simp; omega
    refine (floor_ok au ao w3 (by omega) h0 h2 h4).mono ?_
    rintro e w4 ⟨rfl, hb4⟩
    have hB4 := hB3.trans (hb4.mono hB3.size)
    have hX4 := hX3.below hb4
    clear hb4 hX3 hB3 c0 c1 c2 c3 sz
    have hXd : Boxes w.heap.size au ao bu bo w4.drew := ⟨hX4.c0, hX4.c1, hX4.c2, hX4.c3, hX4.sz⟩
    have hBd := hB4.drew
    obtain ⟨c0, c1, c2, c3, sz⟩ := id hX4
    go_wp2_with fail
    go_region_with ((go_at_call 35; refine (right_any au ao _).mono ?_; rintro e wr ⟨rfl, hbr⟩; have hXr := hXd.below hbr; obtain ⟨d0, d1, d2, d3, dz⟩ := id hXr))
    all_goals
      have hBr := hBd.trans (hbr.mono hBd.size)
      clear hXd hBd hbr hX4 hB4 c0 c1 c2 c3 sz
      go_wp2_with fail
      refine (rfloor_ok au ao wr (by omega) h0 h2 h4).mono ?_
      rintro e wr ⟨rfl, rfl⟩
      go_wp2
      go_ret
      exact ⟨rfl, hBr⟩

set_option maxRecDepth 100000 in
set_option maxHeartbeats 3200000 in
theorem compares_ok (au ao bu bo : Int) (w : World) (ha : 1 ≤ ao) (hb : 1 ≤ bo) (h0 : -9223372036854775808 ≤ au) (h1 : -9223372036854775808 ≤ bu) (h2 : au ≤ 9223372036854775807) (h3 : bu ≤ 9223372036854775807) (h4 : ao ≤ 9223372036854775807) (h5 : bo ≤ 9223372036854775807) :
    Calls Try.prog 10 #[.agg #[.int .i64 au, .int .i64 ao], .agg #[.int .i64 bu, .int .i64 bo]] w fun e w' => e = .returned (.bool true) ∧ Below w.heap.size w w' := by
  go_enter Try.func10, Try.ntmps10
  go_wp2_with fail
  obtain ⟨W0, hW0⟩ : ∃ W0, W0 = (w.alloc (.cells #[.int .i64 au, .int .i64 ao] 51)).alloc (.cells #[.int .i64 bu, .int .i64 bo] 51) := ⟨_, rfl⟩
  have hB0 : Below w.heap.size w W0 := by rw [hW0]; exact ((Below.refl _ _).alloc (Nat.le_refl _) _).alloc (by simp) _
  have hX0 : Boxes w.heap.size au ao bu bo W0 := by
    subst hW0
    exact ⟨by go_simp, by go_simp, by go_simp, by go_simp, by simp⟩
  rw [← hW0]
  clear hW0
  refine (awake24 W0).mono ?_
  rintro e w1 ⟨rfl, hb1⟩
  have hB1 := hB0.trans (hb1.mono hB0.size)
  have hX1 := hX0.below hb1
  clear hb1 hX0 hB0
  obtain ⟨c0, c1, c2, c3, sz⟩ := id hX1
  go_wp2_with fail
  refine (cmp_ok au ao bu bo w1 ha hb h4 h5 h0 h1 h2 h3).mono ?_
  rintro e w2 ⟨rfl, hb2⟩
  have hB2 := hB1.trans (hb2.mono hB1.size)
  have hX2 := hX1.below hb2
  clear hb2 hX1 hB1 c0 c1 c2 c3 sz
  obtain ⟨c0, c1, c2, c3, sz⟩ := id hX2
  go_wp2_with fail
  refine (cmp_ok bu bo au ao w2 hb ha h5 h4 h1 h0 h3 h2).mono ?_
  rintro e w3 ⟨rfl, hb3⟩
  rw [cmp3_swap (au * bo) (bu * ao)]
  have R3 := hide (rcmp_ok au ao bu bo)
  have R4 : -1 ≤ cmp3 (au * bo) (bu * ao) ∧ cmp3 (au * bo) (bu * ao) ≤ 1 := by unfold cmp3; (repeat' split) <;> omega
  generalize cmp3 (au * bo) (bu * ao) = C at *
  obtain ⟨C0, C1⟩ := R4
  have hB3 := hB2.trans (hb3.mono hB2.size)
  have hX3 := hX2.below hb3
  clear hb3 hX2 hB2 c0 c1 c2 c3 sz
  obtain ⟨c0, c1, c2, c3, sz⟩ := id hX3
  go_wp2_with fail
  · have hd : decide (1 ≤ ao) = true := by simp; omega
    refine (floor_ok au ao w3 (by omega) h0 h2 h4).mono ?_
    rintro e w4 ⟨rfl, hb4⟩
    have hB4 := hB3.trans (hb4.mono hB3.size)
    have hX4 := hX3.below hb4
    clear hb4 hX3 hB3 c0 c1 c2 c3 sz
    have hXd : Boxes w.heap.size au ao bu bo w4.drew := ⟨hX4.c0, hX4.c1, hX4.c2, hX4.c3, hX4.sz⟩
    have hBd := hB4.drew
    obtain ⟨c0, c1, c2, c3, sz⟩ := id hX4
    go_wp2_with fail
    go_region_with ((go_at_call 35; refine (right_any au ao _).mono ?_; rintro e wr ⟨rfl, hbr⟩; have hXr := hXd.below hbr; obtain ⟨d0, d1, d2, d3, dz⟩ := id hXr))
    all_goals
      have hBr := hBd.trans (hbr.mono hBd.size)
      clear hXd hBd hbr hX4 hB4 c0 c1 c2 c3 sz
      go_wp2_with fail
      refine (rfloor_ok au ao wr (by omega) h0 h2 h4).mono ?_
      rintro e wr ⟨rfl, rfl⟩
      go_wp2_with fail
      refine (R3.out wr ha hb h4 h5 h0 h1 h2 h3).mono ?_
      rintro e wr ⟨rfl, rfl⟩
      go_wp2
      go_ret
      exact ⟨rfl, hBr⟩

end Go.Proofs.Ytafokllnelibcaa
