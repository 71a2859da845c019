import Derived.Test.YtagahpfinaaemaaLE

namespace Go.Proofs.Ytagahpfinaaemaa

open Go Go.Sym

set_option linter.unusedVariables false

theorem FNq_20 (a b c d w h : Int) : FNq 20 [[a, b, c, d], [w], [h]] = [withinC a b c d w h] := rfl
theorem FNq_27 (w h k x y : Int) : FNq 27 [[w], [h], [k], [x, y]] = spanL w h k x y := rfl
theorem FNq_28 (w h k x y : Int) : FNq 28 [[w], [h], [k], [x, y]] = [hasC w h k x y] := rfl
theorem FNq_29 (k x y : Int) : FNq 29 [[k], [x, y]] = [tdN k.toNat x, tdN k.toNat y] := rfl
theorem FNq_30 (w h k x y : Int) : FNq 30 [[w], [h], [k], [x, y]] = kidsLL w h k x y := rfl
theorem FNq_31 (w h k x y : Int) : FNq 31 [[w], [h], [k], [x, y]] = [kidsC w h k x y] := rfl
theorem FNq_32 (w h k x y : Int) : FNq 32 [[w], [h], [k], [x, y]] = aboveL w h k x y := rfl
theorem FNq_33 (w h k x y : Int) : FNq 33 [[w], [h], [k], [x, y]] = [aboveC w h k x y] := rfl
theorem FNq_34 (w h : Int) : FNq 34 [[w], [h]] = if szOk w h then szL 10 w h else [] := rfl
theorem FNq_35 (w h k t x y : Int) : FNq 35 [[w], [h], [k], [t], [x, y]] = [mayC w h k t x y] := rfl
theorem FNq_36 (w h k t x y : Int) : FNq 36 [[w], [h], [k], [t], [x, y]] = encB (mayP w h k t) := rfl
theorem FNq_37 (a b : List Int) : FNq 37 [a, b] = encB (decide (a = b)) := rfl
theorem FNq_38 (w h k x y : Int) : FNq 38 [[w], [h], [k], [x, y]] = kidsLL w h k x y := rfl
theorem FNq_39 (w h k x y : Int) : FNq 39 [[w], [h], [k], [x, y]] = encB (decide (kidsC w h k x y = 0)) := rfl
theorem FNq_40 (a b c d x y : Int) : FNq 40 [[a, b, c, d], [x, y]] = encB (decide (withinC a b c d 1024 1024 = 0 ∧ a ≤ x ∧ x ≤ c ∧ b ≤ y ∧ y ≤ d)) := rfl
theorem FNq_45 (k x y : Int) : FNq 45 [[k], [x, y]] = encB (decide (k ≤ 100 ∧ 0 ≤ x ∧ x ≤ 1024 ∧ 0 ≤ y ∧ y ≤ 1024)) := rfl

theorem encB_one (b : Bool) : ((encB b).headD 0 = 1) ↔ b = true := by cases b <;> simp [encB]

theorem kidsL_two (A B x y : Int) : 0 < (kidsL A B x y).length / 2 ∧ (kidsL A B x y).length / 2 ≤ 4 := by
  unfold kidsL rowK
  by_cases hx : 2 * x + 1 < A <;> by_cases hy : 2 * y + 1 < B <;> simp [hx, hy]

theorem within_is {x0 y0 x1 y1 w h : Int} (h1 : szOk w h) (h2 : 0 ≤ x0 ∧ x0 < w ∧ 0 ≤ x1 ∧ x1 < w ∧ x0 ≤ x1) (h3 : 0 ≤ y0 ∧ y0 < h ∧ 0 ≤ y1 ∧ y1 < h ∧ y0 ≤ y1) : withinC x0 y0 x1 y1 w h = 0 := by
  unfold szOk at h1
  unfold withinC
  rw [if_pos h1, if_pos (by omega), if_neg (by omega)]

abbrev Says (vs : Array Value) (w : World) : Prop := Calls Try.prog 9 vs w fun e w' => e = .returned (.bool true) ∧ RowKit.Below w.heap.size w w'

theorem spans_main {w : World} {vs : Array Value} {W H K X Y DX DY : Int} (hargs : ArgsAre w vs.toList aksS [[W], [H], [K], [X, Y], [DX, DY]]) {aa : As} {outs : List Leaf} (hent : entryK Try.prog knSpans 1 2000 9 [] 5 (argSVs 0 aksS) 8 aa = some outs)
    (hall : ∀ e0 : Env, e0.fn = FNq → vInt (e0.val 0) = W → vInt (e0.val 1) = H → vInt (e0.val 2) = K → e0.row 3 = [X, Y] → e0.row 4 = [DX, DY] →
      AsOk e0 aa ∧ allLeaves (fun lf => AsOk e0 lf.1 → StepL (fun _ _ => False) (fun _ _ => (0, 0)) none e0 lf.2) outs) : Says vs w := by
  refine law_floyd_as (FN := FNq) mix knSpans_ok (by decide) hent hargs fun e0 hf ha => ?_
  simp only [ArgsE, ArgE, List.cons.injEq] at ha
  obtain ⟨_, _, ⟨rfl, rfl⟩, ha0, _, _, ⟨rfl, rfl⟩, ha1, _, _, ⟨rfl, rfl⟩, ha2, _, _, ⟨rfl, rfl⟩, ⟨ha3, _⟩, _, _, ⟨rfl, rfl⟩, ⟨ha4, _⟩, _⟩ := ha
  simp only [List.cons.injEq, and_true] at ha0 ha1 ha2
  exact hall e0 hf ha0.symm ha1.symm ha2.symm ha3 ha4


theorem spans_no {w : World} {vs : Array Value} {W H K X Y DX DY : Int} (hargs : ArgsAre w vs.toList aksS [[W], [H], [K], [X, Y], [DX, DY]]) (hs : ¬ szOk W H) : Says vs w := by
  have h0 : sizeC W H K = 3 := by simp only [sizeC, if_neg hs]
  have n0 : ¬ sizeC W H K = 0 := by omega
  have h1 : hasC W H K X Y = 3 := by rw [hasC, if_neg n0, h0]
  have h1' : hasC W H K DX DY = 3 := by rw [hasC, if_neg n0, h0]
  have h2 : kidsC W H K X Y = 3 := by simp only [kidsC, if_neg hs]
  have h3 : aboveC W H K DX DY = 3 := by rw [aboveC, if_neg n0, h0]
  have h4 : spanL W H K X Y = [0, 0, 0, 0] := by rw [spanL, if_neg (by omega)]
  have h5 : kidsLL W H K X Y = [] := by rw [kidsLL, if_neg (by omega)]
  have h6 : aboveL W H K DX DY = [0, 0] := by rw [aboveL, if_neg (by omega)]
  have h7 : ∀ t, mayC W H K t X Y = 3 := fun t => by rw [may_eq (fun h => absurd h n0), h1]
  have h8 : ∀ t, mayC W H K t DX DY = 3 := fun t => by rw [may_eq (fun h => absurd h n0), h1']
  have h9 : ∀ t, mayP W H K t = true := fun t => decide_eq_true (fun h => absurd h n0)
  refine spans_main hargs spA fun e0 hf hW hH hK hC hD => ⟨?_, ?_⟩
  · simp only [AsOk_cons, AsOk_nil, as1, isE, someE, z27, z32, mayA, argC, argD, aW, aH, aK, aC, aD, szE, clZ, s4, s2, BE.eval, cmpI, IE.eval, IE.reval, IE.aeval, hf, hW, hH, hK, hC, hD, sel2, sel4, FNq_27, FNq_28, FNq_30, FNq_31, FNq_32, FNq_33, FNq_34, FNq_35, FNq_36, encB_one, List.headD_cons, List.length_nil, and_true, true_and, decide_eq_true_eq, decide_eq_false_iff_not, h1, h2, h3, h4, h5, h6, h7, h8, h9, if_neg hs]
    simp
  · exact ⟨fun _ => rfl, fun _ => rfl, trivial⟩

theorem spans_out {w : World} {vs : Array Value} {W H K X Y DX DY : Int} (hargs : ArgsAre w vs.toList aksS [[W], [H], [K], [X, Y], [DX, DY]]) (hs : szOk W H) (hk : ¬ (0 ≤ K ∧ K < ((lv 10 W H : Nat) : Int))) : Says vs w := by
  have h0 : sizeC W H K = 11 := by simp only [sizeC, if_pos hs, if_neg hk]
  have n0 : ¬ sizeC W H K = 0 := by omega
  have h1 : hasC W H K X Y = 11 := by rw [hasC, if_neg n0, h0]
  have h1' : hasC W H K DX DY = 11 := by rw [hasC, if_neg n0, h0]
  have h2 : kidsC W H K X Y = 11 := by
    rw [kidsC, if_pos hs]
    split
    · rfl
    · exact h1
  have h3 : aboveC W H K DX DY = 11 := by rw [aboveC, if_neg n0, h0]
  have h4 : spanL W H K X Y = [0, 0, 0, 0] := by rw [spanL, if_neg (by omega)]
  have h5 : kidsLL W H K X Y = [] := by rw [kidsLL, if_neg (by omega)]
  have h6 : aboveL W H K DX DY = [0, 0] := by rw [aboveL, if_neg (by omega)]
  have h7 : ∀ t, mayC W H K t X Y = 11 := fun t => by rw [may_eq (fun h => absurd h n0), h1]
  have h8 : ∀ t, mayC W H K t DX DY = 11 := fun t => by rw [may_eq (fun h => absurd h n0), h1']
  have h9 : ∀ t, mayP W H K t = true := fun t => decide_eq_true (fun h => absurd h n0)
  have hl := lv_pos 10 W H
  have hl' : (0 : Int) < ((lv 10 W H : Nat) : Int) := by omega
  refine spans_main hargs spB fun e0 hf hW hH hK hC hD => ⟨?_, ?_⟩
  · simp only [AsOk_cons, AsOk_nil, as1, isE, someE, z27, z32, mayA, argC, argD, aW, aH, aK, aC, aD, szE, clE, s4, s2, BE.eval, cmpI, IE.eval, IE.reval, IE.aeval, hf, hW, hH, hK, hC, hD, sel2, sel4, FNq_27, FNq_28, FNq_30, FNq_31, FNq_32, FNq_33, FNq_34, FNq_35, FNq_36, encB_one, List.headD_cons, List.length_nil, and_true, true_and, decide_eq_true_eq, decide_eq_false_iff_not, h1, h2, h3, h4, h5, h6, h7, h8, h9, if_pos hs, szLen, hl']
    simp
  · exact ⟨fun _ => rfl, fun _ => rfl, trivial⟩

theorem spans_in {w : World} {vs : Array Value} {W H K X Y DX DY : Int} (hargs : ArgsAre w vs.toList aksS [[W], [H], [K], [X, Y], [DX, DY]]) (hs : szOk W H) (hk : 0 ≤ K ∧ K < ((lv 10 W H : Nat) : Int)) : Says vs w := by
  have h0 : sizeC W H K = 0 := sizeC_zero.2 ⟨hs, hk⟩
  have hlv := lv_le 10 W H
  obtain ⟨j, rfl⟩ : ∃ j : Nat, K = j := ⟨K.toNat, by omega⟩
  have hj : j ≤ 10 := by omega
  have hs' := hs
  unfold szOk at hs'
  have h1 : hasC W H j X Y = 0 ∨ hasC W H j X Y = 4 := by
    rw [hasC, if_pos h0]; split
    · exact .inl rfl
    · exact .inr rfl
  have h00 : sizeC W H 0 = 0 := sizeC_zero.2 ⟨hs, by omega, by omega⟩
  have h2 : aboveC W H j DX DY = 0 ∨ aboveC W H j DX DY = 4 := by
    rw [aboveC, if_pos h0, hasC, if_pos h00]; split
    · exact .inl rfl
    · exact .inr rfl
  have hl' : (0 : Int) < ((lv 10 W H : Nat) : Int) := by omega
  have hcl : binI .gtr .i64 0 (binI .lss .i64 (j : Int) (binI .sub .i64 ((lv 10 W H : Nat) : Int) 1)) = j := by
    have e : binI .sub .i64 ((lv 10 W H : Nat) : Int) 1 = ((lv 10 W H : Nat) : Int) - 1 := wrap_i64 (by omega)
    rw [e]
    show (if (0 : Int) < (if ((lv 10 W H : Nat) : Int) - 1 < (j : Int) then ((lv 10 W H : Nat) : Int) - 1 else (j : Int)) then (if ((lv 10 W H : Nat) : Int) - 1 < (j : Int) then ((lv 10 W H : Nat) : Int) - 1 else (j : Int)) else 0) = j
    rw [if_neg (show ¬ ((lv 10 W H : Nat) : Int) - 1 < (j : Int) by omega)]
    split <;> omega
  have h7 : mayC W H j j X Y = hasC W H j X Y := may_eq (fun _ => rfl)
  have h8 : mayC W H j 0 DX DY = aboveC W H j DX DY := may_above
  have h9 : mayP W H j j = true := decide_eq_true (fun _ => hk)
  have h9' : mayP W H j 0 = true := decide_eq_true (fun _ => by omega)
  have k1 : hasC W H j X Y ≠ 0 → spanL W H j X Y = [0, 0, 0, 0] := fun h => by rw [spanL, if_neg h]
  have k2 : aboveC W H j DX DY ≠ 0 → aboveL W H j DX DY = [0, 0] := fun h => by rw [aboveL, if_neg h]
  have k3 : kidsC W H j X Y ≠ 0 → kidsLL W H j X Y = [] := fun h => by rw [kidsLL, if_neg h]
  have k4 : kidsC W H j X Y = if j = 0 then 11 else hasC W H j X Y := by
    rw [kidsC, if_pos hs]
    by_cases hz : j = 0
    · subst hz; rfl
    · rw [if_neg hz, if_neg (by omega)]
  have k5 : kidsC W H j X Y = 0 → 0 < (kidsLL W H j X Y).length / 2 ∧ (kidsLL W H j X Y).length / 2 ≤ 4 := fun h => by
    rw [kidsLL, if_pos h]; exact kidsL_two _ _ _ _
  have dd : aboveC W H j DX DY = 0 → (0 ≤ DX ∧ DX < W ∧ 0 ≤ DY ∧ DY < H) := fun h => by
    rw [aboveC, if_pos h0] at h
    have := (hasC_zero.1 h).2
    exact this
  have k6 : aboveC W H j DX DY = 0 → aboveL W H j DX DY = [DX / 2 ^ j, DY / 2 ^ j] ∧ tdN j DX = DX / 2 ^ j ∧ tdN j DY = DY / 2 ^ j := fun h => by
    have := dd h
    rw [aboveL, if_pos h, Int.toNat_natCast]
    exact ⟨rfl, tdN_eq (by omega) j, tdN_eq (by omega) j⟩
  have k7 : hasC W H j X Y = 0 → aboveC W H j DX DY = 0 → ∃ a b c d, spanL W H j X Y = [a, b, c, d] ∧ withinC a b c d W H = 0 ∧ ((withinC a b c d 1024 1024 = 0 ∧ a ≤ DX ∧ DX ≤ c ∧ b ≤ DY ∧ DY ≤ d) ↔ (DX / 2 ^ j = X ∧ DY / 2 ^ j = Y)) := fun h h' => by
    have hd := dd h'
    have hx := (hasC_zero.1 h).2
    rw [Int.toNat_natCast] at hx
    obtain ⟨p1, p2⟩ := span_side (n := W) (x := X) (d := DX) (j := j) hs'.1 hs'.2.1 hx.1 hx.2.1 hd.1 hd.2.1
    obtain ⟨q1, q2⟩ := span_side (n := H) (x := Y) (d := DY) (j := j) hs'.2.2.1 hs'.2.2.2 hx.2.2.1 hx.2.2.2 hd.2.2.1 hd.2.2.2
    refine ⟨_, _, _, _, by rw [spanL, if_pos h, Int.toNat_natCast], within_is hs (by omega) (by omega), ?_⟩
    have e : withinC (X * 2 ^ j) (Y * 2 ^ j) (min W ((X + 1) * 2 ^ j) - 1) (min H ((Y + 1) * 2 ^ j) - 1) 1024 1024 = 0 := within_is (by unfold szOk; omega) (by omega) (by omega)
    rw [← p2, ← q2]
    simp only [e, true_and, and_assoc]
  have low0 : j = 0 → (j : Int) < 1 := by omega
  have low1 : ¬ j = 0 → ¬ (j : Int) < 1 := by omega
  by_cases hz : j = 0
  · have hk0 : kidsC W H j X Y = 11 := by rw [k4, if_pos hz]
    have hkl := k3 (by omega)
    have hlow := low0 hz
    rcases h1 with hc | hc <;> rcases h2 with hu | hu
    · obtain ⟨a, b, c, d, g1, g2, g3⟩ := k7 hc hu
      obtain ⟨g4, g5, g6⟩ := k6 hu
      have hdd := dd hu
      refine spans_main hargs spC4 fun e0 hf hW hH hK hC hD => ⟨?_, ?_⟩
      · simp only [AsOk_cons, AsOk_nil, as1, isE, someE, u32, w20, kLow, mayA, argC, argD, argR, aW, aH, aK, aC, aD, szE, clE, s4, s2, List.cons_append, List.nil_append, BE.eval, cmpI, IE.eval, IE.reval, IE.aeval, hf, hW, hH, hK, hC, hD, sel2, sel4, FNq_20, FNq_27, FNq_28, FNq_29, FNq_30, FNq_31, FNq_32, FNq_33, FNq_34, FNq_35, FNq_36, FNq_45, encB_one, List.headD_cons, List.length_nil, and_true, true_and, decide_eq_true_eq, decide_eq_false_iff_not, Int.toNat_natCast, hc, hu, hk0, hkl, hlow, hcl, h7, h8, h9, h9', if_pos hs, szLen, hl', g1, g2, g4, g5, g6]
        simp; omega
      · simp only [allLeaves, AsOk_cons, AsOk_nil, BE.eval, cmpI, IE.eval, IE.reval, IE.aeval, hf, hW, hH, hK, hC, hD, sel2, sel4, FNq_20, FNq_27, FNq_28, FNq_29, FNq_30, FNq_31, FNq_32, FNq_33, FNq_34, FNq_35, FNq_36, FNq_40, FNq_45, encB_one, encB_zero, List.headD_cons, List.length_nil, and_true, true_and, decide_eq_true_eq, decide_eq_false_iff_not, StepL, Int.toNat_natCast, hc, hu, hk0, hkl, hlow, hcl, h7, h8, h9, h9', if_pos hs, szLen, hl', g1, g2, g3, g4, g5, g6]
        by_cases e1 : DX / 2 ^ j = X <;> by_cases e2 : DY / 2 ^ j = Y <;> simp [e1, e2]
    · have hsp := k2 (by omega)
      refine spans_main hargs spC3 fun e0 hf hW hH hK hC hD => ⟨?_, ⟨fun _ => rfl, trivial⟩⟩
      simp only [AsOk_cons, AsOk_nil, as1, isE, someE, z32, kLow, mayA, argC, argD, aW, aH, aK, aC, aD, szE, clE, s2, BE.eval, cmpI, IE.eval, IE.reval, IE.aeval, hf, hW, hH, hK, hC, hD, sel2, FNq_28, FNq_30, FNq_31, FNq_32, FNq_33, FNq_34, FNq_35, FNq_36, encB_one, List.headD_cons, List.length_nil, and_true, true_and, decide_eq_true_eq, decide_eq_false_iff_not, hc, hu, hk0, hkl, hlow, hcl, h7, h8, h9, h9', if_pos hs, szLen, hl', hsp]
      simp
    · have hsp := k1 (by omega)
      obtain ⟨g4, g5, g6⟩ := k6 hu
      have hdd := dd hu
      refine spans_main hargs spC2 fun e0 hf hW hH hK hC hD => ⟨?_, ⟨fun _ => rfl, trivial⟩⟩
      simp only [AsOk_cons, AsOk_nil, as1, isE, someE, z27, u32, kLow, mayA, argC, argD, argR, aW, aH, aK, aC, aD, szE, clE, s4, s2, List.cons_append, List.nil_append, BE.eval, cmpI, IE.eval, IE.reval, IE.aeval, hf, hW, hH, hK, hC, hD, sel2, sel4, FNq_27, FNq_28, FNq_29, FNq_30, FNq_31, FNq_32, FNq_33, FNq_34, FNq_35, FNq_36, FNq_45, encB_one, List.headD_cons, List.length_nil, and_true, true_and, decide_eq_true_eq, decide_eq_false_iff_not, Int.toNat_natCast, hc, hu, hk0, hkl, hlow, hcl, h7, h8, h9, h9', if_pos hs, szLen, hl', hsp, g4, g5, g6]
      simp; omega
    · have hsp := k1 (by omega)
      have hsp2 := k2 (by omega)
      refine spans_main hargs spC1 fun e0 hf hW hH hK hC hD => ⟨?_, ⟨fun _ => rfl, trivial⟩⟩
      simp only [AsOk_cons, AsOk_nil, as1, isE, someE, z27, z32, kLow, mayA, argC, argD, aW, aH, aK, aC, aD, szE, clE, s4, s2, BE.eval, cmpI, IE.eval, IE.reval, IE.aeval, hf, hW, hH, hK, hC, hD, sel2, sel4, FNq_27, FNq_28, FNq_30, FNq_31, FNq_32, FNq_33, FNq_34, FNq_35, FNq_36, encB_one, List.headD_cons, List.length_nil, and_true, true_and, decide_eq_true_eq, decide_eq_false_iff_not, hc, hu, hk0, hkl, hlow, hcl, h7, h8, h9, h9', if_pos hs, szLen, hl', hsp, hsp2]
      simp
  · have hk0 : kidsC W H j X Y = hasC W H j X Y := by rw [k4, if_neg hz]
    have hlow := low1 hz
    rcases h1 with hc | hc <;> rcases h2 with hu | hu
    · obtain ⟨a, b, c, d, g1, g2, g3⟩ := k7 hc hu
      obtain ⟨g4, g5, g6⟩ := k6 hu
      have hdd := dd hu
      rw [hc] at hk0
      obtain ⟨r1, r2⟩ := k5 hk0
      refine spans_main hargs spD4 fun e0 hf hW hH hK hC hD => ⟨?_, ?_⟩
      · simp only [AsOk_cons, AsOk_nil, as1, isE, someE, u32, k30, w20, kLow, mayA, argC, argD, argR, aW, aH, aK, aC, aD, szE, clE, s4, s2, List.cons_append, List.nil_append, BE.eval, cmpI, IE.eval, IE.reval, IE.aeval, hf, hW, hH, hK, hC, hD, sel2, sel4, FNq_20, FNq_27, FNq_28, FNq_29, FNq_30, FNq_31, FNq_32, FNq_33, FNq_34, FNq_35, FNq_36, FNq_37, FNq_38, FNq_39, FNq_45, encB_one, encB_zero, List.headD_cons, and_true, true_and, decide_eq_true_eq, decide_eq_false_iff_not, Int.toNat_natCast, hc, hu, hk0, hlow, hcl, h7, h8, h9, h9', if_pos hs, szLen, hl', g1, g2, g4, g5, g6]
        simp; omega
      · simp only [allLeaves, AsOk_cons, AsOk_nil, BE.eval, cmpI, IE.eval, IE.reval, IE.aeval, hf, hW, hH, hK, hC, hD, sel2, sel4, FNq_20, FNq_27, FNq_28, FNq_29, FNq_30, FNq_31, FNq_32, FNq_33, FNq_34, FNq_35, FNq_36, FNq_37, FNq_38, FNq_39, FNq_40, FNq_45, encB_one, encB_zero, List.headD_cons, and_true, true_and, decide_eq_true_eq, decide_eq_false_iff_not, StepL, Int.toNat_natCast, hc, hu, hk0, hlow, hcl, h7, h8, h9, h9', if_pos hs, szLen, hl', g1, g2, g3, g4, g5, g6]
        by_cases e1 : DX / 2 ^ j = X <;> by_cases e2 : DY / 2 ^ j = Y <;> simp [e1, e2]
    · have hsp := k2 (by omega)
      rw [hc] at hk0
      obtain ⟨r1, r2⟩ := k5 hk0
      refine spans_main hargs spD3 fun e0 hf hW hH hK hC hD => ⟨?_, ⟨fun _ => rfl, trivial⟩⟩
      simp only [AsOk_cons, AsOk_nil, as1, isE, someE, z32, k30, kLow, mayA, argC, argD, aW, aH, aK, aC, aD, szE, clE, s2, List.cons_append, List.nil_append, BE.eval, cmpI, IE.eval, IE.reval, IE.aeval, hf, hW, hH, hK, hC, hD, sel2, FNq_28, FNq_30, FNq_31, FNq_32, FNq_33, FNq_34, FNq_35, FNq_36, FNq_37, FNq_38, FNq_39, encB_one, encB_zero, List.headD_cons, and_true, true_and, decide_eq_true_eq, decide_eq_false_iff_not, hc, hu, hk0, hlow, hcl, h7, h8, h9, h9', if_pos hs, szLen, hl', hsp]
      simp; omega
    · have hsp := k1 (by omega)
      obtain ⟨g4, g5, g6⟩ := k6 hu
      have hdd := dd hu
      rw [hc] at hk0
      have hkl := k3 (by omega)
      refine spans_main hargs spD2 fun e0 hf hW hH hK hC hD => ⟨?_, ⟨fun _ => rfl, trivial⟩⟩
      simp only [AsOk_cons, AsOk_nil, as1, isE, someE, z27, u32, kLow, mayA, argC, argD, argR, aW, aH, aK, aC, aD, szE, clE, s4, s2, List.cons_append, List.nil_append, BE.eval, cmpI, IE.eval, IE.reval, IE.aeval, hf, hW, hH, hK, hC, hD, sel2, sel4, FNq_27, FNq_28, FNq_29, FNq_30, FNq_31, FNq_32, FNq_33, FNq_34, FNq_35, FNq_36, FNq_45, encB_one, List.headD_cons, List.length_nil, and_true, true_and, decide_eq_true_eq, decide_eq_false_iff_not, Int.toNat_natCast, hc, hu, hk0, hkl, hlow, hcl, h7, h8, h9, h9', if_pos hs, szLen, hl', hsp, g4, g5, g6]
      simp; omega
    · have hsp := k1 (by omega)
      have hsp2 := k2 (by omega)
      rw [hc] at hk0
      have hkl := k3 (by omega)
      refine spans_main hargs spD1 fun e0 hf hW hH hK hC hD => ⟨?_, ⟨fun _ => rfl, trivial⟩⟩
      simp only [AsOk_cons, AsOk_nil, as1, isE, someE, z27, z32, kLow, mayA, argC, argD, aW, aH, aK, aC, aD, szE, clE, s4, s2, BE.eval, cmpI, IE.eval, IE.reval, IE.aeval, hf, hW, hH, hK, hC, hD, sel2, sel4, FNq_27, FNq_28, FNq_30, FNq_31, FNq_32, FNq_33, FNq_34, FNq_35, FNq_36, encB_one, List.headD_cons, List.length_nil, and_true, true_and, decide_eq_true_eq, decide_eq_false_iff_not, hc, hu, hk0, hkl, hlow, hcl, h7, h8, h9, h9', if_pos hs, szLen, hl', hsp, hsp2]
      simp

theorem spans_law {w : World} {vs : Array Value} {W H K X Y DX DY : Int} (hargs : ArgsAre w vs.toList aksS [[W], [H], [K], [X, Y], [DX, DY]]) : Says vs w := by
  by_cases hs : szOk W H
  · by_cases hk : 0 ≤ K ∧ K < ((lv 10 W H : Nat) : Int)
    · exact spans_in hargs hs hk
    · exact spans_out hargs hs hk
  · exact spans_no hargs hs

theorem vals2 (a b : Int) : vals C2 [a, b] = [.int .i64 a, .int .i64 b] := by simp [vals, kindAt]

end Go.Proofs.Ytagahpfinaaemaa
