/- Contracts of the document's own Can, At, and of ray.Len. -/
import Derived.Test.YtafokllnelibcaaYE
import Derived.StillTailTactics
namespace Go.Proofs.Ytafokllnelibcaa
open Go.RowKit Go.Lib

theorem rcan_any (x y : Int) (w : World) : Calls Try.prog 28 #[.agg #[.int .i64 x, .int .i64 y]] w fun e w' => e = .returned (.bool (decide (canP x y))) ∧ Below w.heap.size w w' := by
  go_enter Try.func28, Try.ntmps28
  go_wp2
  all_goals
    go_ret
    refine ⟨ret_bool ?_, ?_⟩
    · first | exact dd (by unfold canP; omega) | exact df (by unfold canP; omega) | exact dt (by unfold canP; omega)
    · first | exact (Below.refl _ _).alloc (Nat.le_refl _) _ | exact Below.refl _ _

def towI (f t k : Int) : Int := if t < f then f - k else f + k
theorem tow_any (f t k : Int) (w : World) (h0 : 0 ≤ f) (h1 : f ≤ 1023) (h2 : 0 ≤ k) (h3 : k ≤ 1023) : Calls Try.prog 54 #[.int .i64 f, .int .i64 t, .int .i64 k] w fun e w' => e = .returned (.int .i64 (towI f t k)) ∧ w' = w := by
  unfold towI
  by_cases h : t < f
  · rw [if_pos h]
    go_enter Try.func54, Try.ntmps54
    go_wp2
    go_ret
    exact ⟨rfl, rfl⟩
  · rw [if_neg h]
    go_enter Try.func54, Try.ntmps54
    go_wp2
    go_ret
    exact ⟨rfl, rfl⟩
theorem abs_apD (f t : Int) : absI (t - f) = apD f t := by
  unfold absI apD; split <;> split <;> omega
theorem tow_apS (f t k : Int) : towI f t k = f + k * apS f t := by
  rw [apS_mul]; unfold towI; split <;> omega

theorem len_no (ax ay bx b_y : Int) (w : World) (h : ¬ (canP ax ay ∧ canP bx b_y)) : Calls Try.prog 25 #[.agg #[.int .i64 ax, .int .i64 ay], .agg #[.int .i64 bx, .int .i64 b_y]] w fun e w' => e = .returned (.tuple #[.int .i64 0, .int .i64 4]) ∧ Below w.heap.size w w' := by
  by_cases ha : canP ax ay
  · have hb' : ¬ canP bx b_y := fun hb => h ⟨ha, hb⟩
    go_enter Try.func25, Try.ntmps25
    go_wp2_with fail
    refine (can_any _ _ _).mono ?_
    rintro e w1 ⟨rfl, hb⟩
    rw [decide_eq_true ha]
    have A2 : At w1 (w.heap.size + 1) [.int .i64 bx, .int .i64 b_y] := At.below (At.new_ (by simp)) hb
    have hB := bal (bal hb)
    clear hb
    obtain ⟨c0, c1⟩ := A2.two
    go_wp2_with fail
    refine (can_any _ _ _).mono ?_
    rintro e w2 ⟨rfl, hb⟩
    rw [decide_eq_false hb']
    go_wp2
    go_ret2
    exact ⟨rfl, bchain hB hb⟩
  · go_enter Try.func25, Try.ntmps25
    go_wp2_with fail
    refine (can_any _ _ _).mono ?_
    rintro e w1 ⟨rfl, hb⟩
    rw [decide_eq_false ha]
    go_wp2
    go_ret2
    exact ⟨rfl, bal (bal hb)⟩

/-- What between gives, in the closed form's words. -/
theorem bet_of (ax ay bx b_y L : Int) (ha : canP ax ay) (hb : canP bx b_y) (hL : L = rL ax ay bx b_y) : BetC ax ay bx b_y #[.int .i64 ax, .int .i64 ay, .int .i64 (apS ax bx), .int .i64 (apS ay b_y), .int .i64 L, .int .i64 (rA ax ay bx b_y), .bool (decide (apD ay b_y ≤ apD ax bx))] := fun w =>
  between_any ax ay bx b_y _ _ _ _ _ _ _ w ha hb (hide rfl) (hide rfl) (hide rfl) (hide rfl) (hide ⟨fun h => ⟨decide_eq_true h, by rw [hL, rL, if_pos h], by rw [rA, if_pos h]⟩, fun h => ⟨decide_eq_false (by omega), by rw [hL, rL, if_neg (by omega)], by rw [rA, if_neg (by omega)]⟩⟩)

theorem way_long (w : World) (a b c d e f g : Value) : (Instr.field 67 (.agg #[a, b, c, d, e, f, g]) 3).run Try.prog w = .ok e w := by kernel_rfl

theorem len_yes (ax ay bx b_y L : Int) (w : World) (ha : canP ax ay) (hb : canP bx b_y) (hL : L = rL ax ay bx b_y) : Calls Try.prog 25 #[.agg #[.int .i64 ax, .int .i64 ay], .agg #[.int .i64 bx, .int .i64 b_y]] w fun e w' => e = .returned (.tuple #[.int .i64 L, .int .i64 0]) ∧ Below w.heap.size w w' := by
  have HB := hide (bet_of ax ay bx b_y L ha hb hL)
  clear hL
  have hf := way_long
  go_enter Try.func25, Try.ntmps25
  go_wp2_with fail
  refine (can_any _ _ _).mono ?_
  rintro e w1 ⟨rfl, hb1⟩
  rw [decide_eq_true ha]
  have A1 : At w1 w.heap.size [.int .i64 ax, .int .i64 ay] := At.below (At.alloc At.new _) hb1
  have A2 : At w1 (w.heap.size + 1) [.int .i64 bx, .int .i64 b_y] := At.below (At.new_ (by simp)) hb1
  have hB := bal (bal hb1)
  clear hb1
  obtain ⟨c0, c1⟩ := A2.two
  go_wp2_with fail
  refine (can_any _ _ _).mono ?_
  rintro e w2 ⟨rfl, hb2⟩
  rw [decide_eq_true hb]
  have A1 := A1.below hb2
  have A2 := A2.below hb2
  have hB := bchain hB hb2
  clear hb2 c0 c1
  obtain ⟨c0, c1⟩ := A1.two
  obtain ⟨d0, d1⟩ := A2.two
  go_wp2_with fail
  refine (HB.out _).mono ?_
  rintro e w3 ⟨rfl, hb3⟩
  go_wp2
  go_ret2
  exact ⟨rfl, bchain hB hb3⟩

set_option maxRecDepth 100000 in
set_option maxHeartbeats 2000000 in
theorem rat_any (ax ay bx b_y i : Int) (w : World) (ha : canP ax ay) (hb : canP bx b_y) (h0 : 0 ≤ i) (h1 : i ≤ rL ax ay bx b_y) :
    Calls Try.prog 47 #[.agg #[.int .i64 ax, .int .i64 ay], .agg #[.int .i64 bx, .int .i64 b_y], .int .i64 i] w fun e w' => e = .returned (.agg #[.int .i64 (rX ax ay bx b_y i), .int .i64 (rY ax ay bx b_y i)]) ∧ Below w.heap.size w w' := by
  obtain ⟨q1, q2, q3⟩ := rL_rng ax ay bx b_y ha hb
  obtain ⟨rx, hrx⟩ : ∃ z, rX ax ay bx b_y i = z := ⟨_, rfl⟩
  obtain ⟨ry, hry⟩ : ∃ z, rY ax ay bx b_y i = z := ⟨_, rfl⟩
  have hcan := (ray_at ax ay bx b_y i ha hb h0 h1).1
  obtain ⟨m1, m2, m3, m4⟩ := hcan
  rw [hrx] at m1 m2 ⊢
  rw [hry] at m3 m4 ⊢
  have ha' := ha
  have hb' := hb
  unfold canP at ha' hb'
  have d1 := apD_rng ax bx (by omega) (by omega) (by omega) (by omega)
  have d2 := apD_rng ay b_y (by omega) (by omega) (by omega) (by omega)
  have t1 := hide (w64 (bx - ax) (by omega) (by omega))
  have t2 := hide (w64 (b_y - ay) (by omega) (by omega))
  have HX := hide hrx
  have HY := hide hry
  clear hrx hry
  obtain ⟨dx, hdx⟩ : ∃ z, apD ax bx = z := ⟨_, rfl⟩
  obtain ⟨dy, hdy⟩ : ∃ z, apD ay b_y = z := ⟨_, rfl⟩
  rw [hdx] at d1
  rw [hdy] at d2
  have E1 := hide (show absI (bx - ax) = dx by rw [abs_apD, hdx])
  have E2 := hide (show absI (b_y - ay) = dy by rw [abs_apD, hdy])
  have D1 := hide hdx
  have D2 := hide hdy
  have Q1 := hide q1
  have Q2 := hide q2
  have Q3 := hide q3
  have H1 := hide h1
  clear hdx hdy q1 q2 q3 h1
  have hi1 : i ≤ 1023 := by have := H1.out; have := Q3.out; omega
  go_enter Try.func47, Try.ntmps47
  go_wp2_with fail
  obtain ⟨W, hW⟩ : ∃ W, W = ((w.alloc (Obj.cells #[Value.int IntKind.i64 ax, Value.int IntKind.i64 ay] 37)).alloc (Obj.cells #[Value.int IntKind.i64 bx, Value.int IntKind.i64 b_y] 37)).alloc (Obj.cells #[Value.int IntKind.i64 0, Value.int IntKind.i64 0] 37) := ⟨_, rfl⟩
  have A1 : At W.drew w.heap.size [.int .i64 ax, .int .i64 ay] := by rw [hW]; exact At.drew (At.alloc (At.alloc At.new _) _)
  have A2 : At W.drew (w.heap.size + 1) [.int .i64 bx, .int .i64 b_y] := by rw [hW]; exact At.drew (At.alloc (At.new_ (by simp)) _)
  have A3 : At W.drew (w.heap.size + 1 + 1) [.int .i64 0, .int .i64 0] := by rw [hW]; exact At.drew (At.new_ (by simp))
  have hBW : Below w.heap.size w W.drew := by rw [hW]; exact (below_put (below_put below_at)).drew
  rw [← hW]
  clear hW
  obtain ⟨c0, c1⟩ := A1.two
  obtain ⟨d0, d1'⟩ := A2.two
  have s1 := t1.out
  have s2 := t2.out
  have e1 := E1.out
  have e2 := E2.out
  go_region_held3 (fun w' => w'.cell? ⟨w.heap.size, 0, none⟩ = some (.int .i64 ax) ∧ w'.cell? ⟨w.heap.size, 1, none⟩ = some (.int .i64 ay) ∧ w'.cell? ⟨w.heap.size + 1, 0, none⟩ = some (.int .i64 bx) ∧ w'.cell? ⟨w.heap.size + 1, 1, none⟩ = some (.int .i64 b_y) ∧ At w' (w.heap.size + 1 + 1) [.int .i64 0, .int .i64 0] ∧ Below w.heap.size w w')
    (first
    | exact ⟨c0, c1, d0, d1', A3, hBW⟩
    | (go_split_ands; refine ⟨?_, ?_, ?_, ?_, ?_, ?_⟩ <;> assumption))
    (first
    | (go_at_call 46; refine (size_abs _ _ (by omega) (by omega)).mono ?_; rintro e w' ⟨rfl, rfl⟩))
  rename_i hh
  obtain ⟨c0, c1, d0, d1', A3, hBW⟩ := hh
  clear s1 s2 e1 e2 A1 A2
  obtain ⟨L, hL⟩ : ∃ z, rL ax ay bx b_y = z := ⟨_, rfl⟩
  obtain ⟨A, hA⟩ : ∃ z, rA ax ay bx b_y = z := ⟨_, rfl⟩
  have q1 := Q1.out
  have q2 := Q2.out
  have q3 := Q3.out
  have hi2 := H1.out
  rw [hL] at q2 q3 hi2
  rw [hA] at q1 q2
  generalize W.drew = V at *
  have l3 := A3.1
  by_cases hw : dy ≤ dx
  · have eL : L = dx := by rw [← hL, rL, if_pos (by rw [D1.out, D2.out]; exact hw), D1.out]
    have eA : A = dy := by rw [← hA, rA, if_pos (by rw [D1.out, D2.out]; exact hw), D2.out]
    have hx := HX.out
    have hy := HY.out
    rw [rX, if_pos (by rw [D1.out, D2.out]; exact hw), ← tow_apS] at hx
    rw [rY, if_pos (by rw [D1.out, D2.out]; exact hw), ← tow_apS, hL, hA, eL, eA] at hy
    have FX := hide hx
    have FY := hide hy
    subst eL
    subst eA
    clear hL hA hx hy
    by_cases hz : L = 0
    · obtain rfl : A = 0 := by omega
      obtain rfl : i = 0 := by omega
      subst hz
      have hs : rS 0 0 0 = 0 := by decide
      have hx := FX.out
      have hy := FY.out
      rw [hs] at hy
      have hx2 : ax = rx := by rw [← hx]; unfold towI; split <;> omega
      have hy2 : ay = ry := by rw [← hy]; unfold towI; split <;> omega
      subst hx2
      subst hy2
      clear FX FY hx hy hs
      obtain ⟨n0, n1⟩ := A3.two
      obtain ⟨f0, f1, fs⟩ := A3.fr2
      go_wp2_with fail
      exact bodyPost_ret (v := .agg #[.int .i64 ax, .int .i64 ay]) (by simp [results, Try.results47, go_sem, n0, n1, f0, f1, fs]) rfl ⟨rfl, by repeat first | exact hBW | refine below_put ?_ | refine Below.setCell ?_ (by go_size) _⟩
    · have hs := rS_rng L A i (by omega) q1 q2 h0 hi2
      have p0 := Int.mul_nonneg h0 q1
      have p1 := Int.mul_le_mul (show i ≤ 1023 by omega) (show A ≤ 1023 by omega) q1 (by omega)
      have hP : 2 * i * A = 2 * (i * A) := Int.mul_assoc _ _ _
      obtain ⟨P, hP2⟩ : ∃ z, 2 * i * A = z := ⟨_, rfl⟩
      obtain ⟨s, hs2⟩ : ∃ z, rS L A i = z := ⟨_, rfl⟩
      rw [hs2] at hs FY
      unfold rS at hs2
      rw [hP2] at hs2
      have z1 : (L == 0) = false := by rw [beq_eq_false_iff_ne]; exact hz
      have z2 : (2 * L == 0) = false := by rw [beq_eq_false_iff_ne]; omega
      have z3 : ¬ (2 * L = 0) := by omega
      have z4 : (P + L).tdiv (2 * L) = s := by rw [Int.tdiv_eq_ediv_of_nonneg (by omega)]; exact hs2
      have z5 : IntKind.i64.wrap (2 * i) = 2 * i := w64 _ (by omega) (by omega)
      have z6 : IntKind.i64.wrap (2 * i * A) = P := by rw [w64 _ (by omega) (by omega), hP2]
      have z7 : IntKind.i64.wrap (P + L) = P + L := w64 _ (by omega) (by omega)
      have z8 : IntKind.i64.wrap (2 * L) = 2 * L := w64 _ (by omega) (by omega)
      have z9 : IntKind.i64.wrap s = s := w64 _ (by omega) (by omega)
      have hs0 : 0 ≤ s := hs.1
      have hs1 : s ≤ 1023 := by omega
      clear hs hs2 hP hP2 p0 p1 hz
      go_wp2_with fail
      have A3d := A3.drew
      have hBd := hBW.drew
      have k0 : V.drew.cell? ⟨w.heap.size, 0, none⟩ = some (.int .i64 ax) := c0
      have k1 : V.drew.cell? ⟨w.heap.size, 1, none⟩ = some (.int .i64 ay) := c1
      have k2 : V.drew.cell? ⟨w.heap.size + 1, 0, none⟩ = some (.int .i64 bx) := d0
      have k3 : V.drew.cell? ⟨w.heap.size + 1, 1, none⟩ = some (.int .i64 b_y) := d1'
      refine wp_region_still_tail 20 (by kernel_rfl) (by kernel_rfl) ?_
      simp only [List.take_succ_cons, List.take_zero, List.drop_succ_cons, List.drop_zero]
      show wpStill Try.prog _ V.drew (fun a' => wpList Try.prog _ _ _ a' V.drew) _ _
      clear c0 c1 d0 d1' A3 hBW
      generalize V.drew = U at *
      repeat still_step
      still_call (tow_any ax bx i U (by omega) (by omega) (by omega) (by omega))
      repeat still_step
      still_call (tow_any ay b_y s U (by omega) (by omega) (by omega) (by omega))
      repeat still_step
      refine wpStill_nil ?_
      clear k0 k1 k2 k3
      obtain ⟨n0, n1⟩ := A3d.two
      obtain ⟨f0, f1, fs⟩ := A3d.fr2
      go_wp2_with fail
      rw [FX.out, FY.out]
      exact bodyPost_ret (v := .agg #[.int .i64 rx, .int .i64 ry]) (by simp [results, Try.results47, go_sem, n0, n1, f0, f1, fs]) rfl ⟨rfl, by repeat first | exact hBd | refine below_put ?_ | refine Below.setCell ?_ (by go_size) _⟩
  · have eL : L = dy := by rw [← hL, rL, if_neg (by rw [D1.out, D2.out]; exact hw), D2.out]
    have eA : A = dx := by rw [← hA, rA, if_neg (by rw [D1.out, D2.out]; exact hw), D1.out]
    have hx := HX.out
    have hy := HY.out
    rw [rX, if_neg (by rw [D1.out, D2.out]; exact hw), ← tow_apS, hL, hA] at hx
    rw [rY, if_neg (by rw [D1.out, D2.out]; exact hw), ← tow_apS] at hy
    have FX := hide hx
    have FY := hide hy
    subst eL
    subst eA
    clear hL hA hx hy
    · have hs := rS_rng L A i (by omega) q1 q2 h0 hi2
      have p0 := Int.mul_nonneg h0 q1
      have p1 := Int.mul_le_mul (show i ≤ 1023 by omega) (show A ≤ 1023 by omega) q1 (by omega)
      have hP : 2 * i * A = 2 * (i * A) := Int.mul_assoc _ _ _
      obtain ⟨P, hP2⟩ : ∃ z, 2 * i * A = z := ⟨_, rfl⟩
      obtain ⟨s, hs2⟩ : ∃ z, rS L A i = z := ⟨_, rfl⟩
      rw [hs2] at hs FX
      unfold rS at hs2
      rw [hP2] at hs2
      have z1 : (L == 0) = false := by rw [beq_eq_false_iff_ne]; omega
      have z2 : (2 * L == 0) = false := by rw [beq_eq_false_iff_ne]; omega
      have z3 : ¬ (2 * L = 0) := by omega
      have z4 : (P + L).tdiv (2 * L) = s := by rw [Int.tdiv_eq_ediv_of_nonneg (by omega)]; exact hs2
      have z5 : IntKind.i64.wrap (2 * i) = 2 * i := w64 _ (by omega) (by omega)
      have z6 : IntKind.i64.wrap (2 * i * A) = P := by rw [w64 _ (by omega) (by omega), hP2]
      have z7 : IntKind.i64.wrap (P + L) = P + L := w64 _ (by omega) (by omega)
      have z8 : IntKind.i64.wrap (2 * L) = 2 * L := w64 _ (by omega) (by omega)
      have z9 : IntKind.i64.wrap s = s := w64 _ (by omega) (by omega)
      have hs0 : 0 ≤ s := hs.1
      have hs1 : s ≤ 1023 := by omega
      clear hs hs2 hP hP2 p0 p1
      cases hA1 : (A == 0)
      all_goals
        go_wp2_with fail
        have A3d := A3.drew
        have hBd := hBW.drew
        have k0 : V.drew.cell? ⟨w.heap.size, 0, none⟩ = some (.int .i64 ax) := c0
        have k1 : V.drew.cell? ⟨w.heap.size, 1, none⟩ = some (.int .i64 ay) := c1
        have k2 : V.drew.cell? ⟨w.heap.size + 1, 0, none⟩ = some (.int .i64 bx) := d0
        have k3 : V.drew.cell? ⟨w.heap.size + 1, 1, none⟩ = some (.int .i64 b_y) := d1'
        refine wp_region_still_tail 20 (by kernel_rfl) (by kernel_rfl) ?_
        simp only [List.take_succ_cons, List.take_zero, List.drop_succ_cons, List.drop_zero]
        show wpStill Try.prog _ V.drew (fun a' => wpList Try.prog _ _ _ a' V.drew) _ _
        clear c0 c1 d0 d1' A3 hBW
        generalize V.drew = U at *
        repeat still_step
        still_call (tow_any ax bx s U (by omega) (by omega) (by omega) (by omega))
        repeat still_step
        still_call (tow_any ay b_y i U (by omega) (by omega) (by omega) (by omega))
        repeat still_step
        refine wpStill_nil ?_
        clear k0 k1 k2 k3
        obtain ⟨n0, n1⟩ := A3d.two
        obtain ⟨f0, f1, fs⟩ := A3d.fr2
        go_wp2_with fail
        rw [FX.out, FY.out]
        exact bodyPost_ret (v := .agg #[.int .i64 rx, .int .i64 ry]) (by simp [results, Try.results47, go_sem, n0, n1, f0, f1, fs]) rfl ⟨rfl, by repeat first | exact hBd | refine below_put ?_ | refine Below.setCell ?_ (by go_size) _⟩
end Go.Proofs.Ytafokllnelibcaa
