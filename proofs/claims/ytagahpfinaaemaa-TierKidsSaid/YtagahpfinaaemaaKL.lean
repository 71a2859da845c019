import Derived.Test.YtagahpfinaaemaaKK

namespace Go.Proofs.Ytagahpfinaaemaa

open Go Go.Sym

set_option linter.unusedVariables false

def comT (ls : List (List Int)) (env : Env) (w h x y : Int) (j : Nat) (u0 u1 u2 v0 v1 v2 : Int) : Prop :=
  (ls = [[w], [h], [((j + 1 : Nat) : Int)], [x, y]] ∧ j ≤ 9 ∧ Geo w h x y j u0 u1 u2 v0 v1 v2) ∧
  (vInt (env.val 0) = w ∧ vInt (env.val 1) = h ∧ vInt (env.val 2) = ((j + 1 : Nat) : Int) ∧ env.row 4 = kidsL (hvN j w) (hvN j h) x y) ∧
  (vInt (env.val 5) = u0 ∧ vInt (env.val 6) = v0 ∧ vInt (env.val 7) = u2 - 1 ∧ vInt (env.val 8) = v2 - 1) ∧
  vInt (env.val 9) = (cnt (hvN j w) (hvN j h) x y : Nat) ∧ vInt (env.val 10) = 0

def invT (ls : List (List Int)) (c : Nat) (env : Env) : Prop := ∃ w h x y j u0 u1 u2 v0 v1 v2, comT ls env w h x y j u0 u1 u2 v0 v1 v2 ∧ ∃ i : Nat, vInt (env.val 12) = i ∧
  ((c = 0 ∧ i ≤ cnt (hvN j w) (hvN j h) x y ∧ vInt (env.val 11) = sumK w h j (kidsL (hvN j w) (hvN j h) x y) i) ∨
   (c = 1 ∧ i < cnt (hvN j w) (hvN j h) x y ∧ vInt (env.val 11) = sumK w h j (kidsL (hvN j w) (hvN j h) x y) (i + 1) ∧
    ∃ (t : Nat) (bx by' : Int), vInt (env.val 13) = t ∧ t ≤ i ∧ (bx = 0 ∨ bx = 1) ∧ (by' = 0 ∨ by' = 1) ∧ (bx = 1 → 2 * x + 1 < hvN j w) ∧ (by' = 1 → 2 * y + 1 < hvN j h) ∧
      (i : Int) = by' * (two (2 * x + 1 < hvN j w) : Nat) + bx ∧
      vInt (env.val 14) = pu u0 u1 bx ∧ vInt (env.val 15) = pu v0 v1 by' ∧ vInt (env.val 16) = pu u1 u2 bx - 1 ∧ vInt (env.val 17) = pu v1 v2 by' - 1))

theorem tkids_law {w : World} {vs : Array Value} {ls : List (List Int)} (hargs : ArgsAre w vs.toList [.int .i64, .int .i64, .int .i64, .agg C2] ls) : Calls Try.prog 10 vs w fun e w' => e = .returned (.bool true) ∧ RowKit.Below w.heap.size w w' := by
  refine law_floyd (cs := cutsT) (FN := FN) mix (fun _ => True) knTierKids_ok (by decide) tkids_rounds tkids_entry invT (fun ls c env => ((50 - vInt (env.val 12)).toNat, if c = 0 then 50 else (40 - vInt (env.val 13)).toNat)) (fun ls i env h => by obtain ⟨w, h, x, y, j, u0, u1, u2, v0, v1, v2, _, i, _, h⟩ := h; simp; omega) ?_ hargs trivial
  intro ls e0 hf hargs _
  simp only [pcSpan, ArgsE, ArgE] at hargs
  obtain ⟨a, _, rfl, ha, b, _, rfl, hb, c, _, rfl, hc, d, _, rfl, ⟨hd, hl⟩, rfl⟩ := hargs
  obtain ⟨x, y, rfl⟩ := len2 hl
  obtain ⟨w, hw⟩ : ∃ n, vInt (e0.val 0) = n := ⟨_, rfl⟩
  obtain ⟨h, hh⟩ : ∃ n, vInt (e0.val 1) = n := ⟨_, rfl⟩
  obtain ⟨k, hk⟩ : ∃ n, vInt (e0.val 2) = n := ⟨_, rfl⟩
  simp only [Nat.zero_add, Nat.reduceAdd, hw, hh, hk] at ha hb hc hd
  subst ha; subst hb; subst hc
  refine ⟨fun env hfn => ⟨⟨?_, ?_, trivial⟩, ⟨?_, ?_, trivial⟩⟩, ?_⟩
  · rintro ⟨w', h', x', y', j, u0, u1, u2, v0, v1, v2, ⟨_, _, _, q9, _⟩, i, q12, h | h⟩
    · have := cnt_le (hvN j w') (hvN j h') x' y'
      simp only [asI, nonneg, atmB, AsOk_cons, AsOk_nil, BE.eval, cmpI, IE.eval, q9, q12]
      simp; omega
    · omega
  · rintro ⟨w', h', x', y', j, u0, u1, u2, v0, v1, v2, ⟨_, _, _, q9, _⟩, i, q12, h | ⟨_, h1, _, t, bx, by', q13, _⟩⟩
    · omega
    · have := cnt_le (hvN j w') (hvN j h') x' y'
      simp only [asJ, nonneg, atmB, AsOk_cons, AsOk_nil, BE.eval, cmpI, IE.eval, q9, q12, q13]
      simp; omega
  · rintro ⟨w', h', x', y', j, u0, u1, u2, v0, v1, v2, ⟨⟨hl, hj, g⟩, ⟨q0, q1, q2, q4⟩, ⟨q5, q6, q7, q8⟩, q9, q10⟩, i, q12, ⟨_, hi, q11⟩ | h⟩
    · have e : IntKind.i64.wrap (((j + 1 : Nat) : Int) - 1) = j := by rw [wrap_i64 (by omega)]; omega
      have hcn := cnt_le (hvN j w') (hvN j h') x' y'
      have hsum := sum_end g
      have hg := g
      obtain ⟨⟨a1, a2, a3, a4, a5, a6⟩, ⟨b1, b2, b3, b4, b5, b6⟩, _, kid⟩ := hg
      by_cases hic : i < cnt (hvN j w') (hvN j h') x' y'
      · obtain ⟨bx, by', k1, k2, k3, k4, k5, k6, k7⟩ := kid_get hic
        obtain ⟨k8, k9⟩ := kid bx by' k1 k2 k5 k6
        have c1 : meetsP u0 v0 (u2 - 1) (v2 - 1) (pu u0 u1 bx) (pu v0 v1 by') (pu u1 u2 bx - 1) (pu v1 v2 by' - 1) := by
          unfold meetsP rightP pu
          rcases k1 with rfl | rfl <;> rcases k2 with rfl | rfl <;> simp only [if_true, if_neg (show ¬ (1 : Int) = 0 by omega)]
          · omega
          · have := b5 (k6 rfl); omega
          · have := a5 (k5 rfl); omega
          · have := a5 (k5 rfl); have := b5 (k6 rfl); omega
        have c2 : meetL u0 v0 (u2 - 1) (v2 - 1) (pu u0 u1 bx) (pu v0 v1 by') (pu u1 u2 bx - 1) (pu v1 v2 by' - 1) = [pu u0 u1 bx, pu v0 v1 by', pu u1 u2 bx - 1, pu v1 v2 by' - 1] := by
          rw [meetL, if_pos c1]
          simp only [List.cons.injEq, and_true]
          unfold pu
          rcases k1 with rfl | rfl <;> rcases k2 with rfl | rfl <;> simp only [if_true, if_neg (show ¬ (1 : Int) = 0 by omega)] <;> omega
        have hS := sumK_bd w' h' j (kidsL (hvN j w') (hvN j h') x' y') i
        have hA := areaI_bd (pu u0 u1 bx) (pu v0 v1 by') (pu u1 u2 bx - 1) (pu v1 v2 by' - 1)
        have hS1 : sumK w' h' j (kidsL (hvN j w') (hvN j h') x' y') (i + 1) = sumK w' h' j (kidsL (hvN j w') (hvN j h') x' y') i + areaI (pu u0 u1 bx) (pu v0 v1 by') (pu u1 u2 bx - 1) (pu v1 v2 by' - 1) := by
          simp only [sumK, k3, k4, k9, arL]
        simp only [allLeaves, AsOk_cons, AsOk_nil, BE.eval, cmpI, IE.eval, IE.reval, IE.aeval, hfn, q0, q1, q2, q4, q5, q6, q7, q8, q9, q10, q11, q12, FN, g27, g28, g42, g43, g44, sel4, binI, e, k3, k4, k8, k9, c2, List.headD_cons, encB_zero, decide_eq_true_eq, decide_eq_false_iff_not, and_true]
        simp only [c1, hic, decide_true, not_true_eq_false, false_and, and_false, true_and, false_imp_iff, Bool.true_eq_false, Bool.false_eq_true]
        refine ⟨fun hA' => ⟨⟨w', h', x', y', j, u0, u1, u2, v0, v1, v2, ⟨⟨hl, hj, g⟩, ⟨?_, ?_, ?_, ?_⟩, ⟨?_, ?_, ?_, ?_⟩, ?_, ?_⟩, i, ?_, .inr ⟨rfl, hic, ?_, 0, bx, by', ?_, by omega, k1, k2, k5, k6, k7, ?_, ?_, ?_, ?_⟩⟩, fun m hm => ?_⟩, fun hA' => absurd (by omega) hA'.1, trivial⟩
        all_goals try simp only [upd, lk_cons, lk_nil, Nat.reduceEqDiff, if_false, if_true, IE.eval, IE.reval, IE.aeval, hfn, q0, q1, q2, q4, q5, q6, q7, q8, q9, q10, q11, q12, FN, g27, g44, sel4, binI, e, k3, k4, k9, vInt_int, List.headD_cons]
        · rw [hS1]; exact wrap_i64 (by omega)
        · rfl
        · cases hm
          refine Prod.lex_def.2 (.inr ⟨rfl, ?_⟩)
          show (40 - (0 : Int)).toNat < 50
          decide
      · have hn : ¬ ((i : Int) < (cnt (hvN j w') (hvN j h') x' y' : Nat)) := by omega
        obtain rfl : i = cnt (hvN j w') (hvN j h') x' y' := by omega
        simp only [allLeaves, AsOk_cons, AsOk_nil, BE.eval, cmpI, IE.eval, IE.reval, IE.aeval, q9, q10, q12, hn, decide_false, decide_true, Bool.false_eq_true, Bool.true_eq_false, false_and, and_false, true_and, false_imp_iff, and_true]
        intro _
        show BE.eval env _ = true
        simp only [BE.eval, cmpI, IE.eval, IE.reval, IE.aeval, hfn, q5, q6, q7, q8, q11, FN, g44, List.headD_cons, hsum, decide_true]
    · omega
  · rintro ⟨w', h', x', y', j, u0, u1, u2, v0, v1, v2, ⟨⟨hl, hj, g⟩, ⟨q0, q1, q2, q4⟩, ⟨q5, q6, q7, q8⟩, q9, q10⟩, i, q12, h | ⟨_, hi, q11, t, bx, by', q13, ht, r1, r2, r3, r4, r5, q14, q15, q16, q17⟩⟩
    · omega
    · have e : IntKind.i64.wrap (((j + 1 : Nat) : Int) - 1) = j := by rw [wrap_i64 (by omega)]; omega
      have hcn := cnt_le (hvN j w') (hvN j h') x' y'
      have hg := g
      obtain ⟨⟨a1, a2, a3, a4, a5, a6⟩, ⟨b1, b2, b3, b4, b5, b6⟩, _, kid⟩ := hg
      obtain ⟨bx', by'', k1, k2, k3, k4, k5, k6, k7⟩ := kid_get (Nat.lt_of_le_of_lt ht hi)
      obtain ⟨k8, k9⟩ := kid bx' by'' k1 k2 k5 k6
      simp only [allLeaves, AsOk_cons, AsOk_nil, BE.eval, cmpI, IE.eval, IE.reval, IE.aeval, hfn, q0, q1, q2, q4, q5, q6, q7, q8, q9, q10, q11, q12, q13, q14, q15, q16, q17, FN, g27, g43, sel4, binI, e, k3, k4, k9, List.headD_cons, encB_zero, decide_eq_true_eq, decide_eq_false_iff_not, and_true, Classical.not_not]
      have t2 : (2 * x' + 1 < hvN j w' → two (2 * x' + 1 < hvN j w') = 2) ∧ (¬ 2 * x' + 1 < hvN j w' → two (2 * x' + 1 < hvN j w') = 1) := ⟨fun hc => by simp only [two, if_pos hc], fun hc => by simp only [two, if_neg hc]⟩
      refine ⟨fun hA' => ?_, fun hA' => ?_, fun hA' => ?_⟩
      · refine ⟨⟨w', h', x', y', j, u0, u1, u2, v0, v1, v2, ⟨⟨hl, hj, g⟩, ⟨?_, ?_, ?_, ?_⟩, ⟨?_, ?_, ?_, ?_⟩, ?_, ?_⟩, i, ?_, .inr ⟨rfl, hi, ?_, t + 1, bx, by', ?_, by omega, r1, r2, r3, r4, r5, ?_, ?_, ?_, ?_⟩⟩, fun m hm => ?_⟩
        all_goals try simp only [upd, lk_cons, lk_nil, Nat.reduceEqDiff, if_false, if_true, IE.eval, IE.reval, IE.aeval, q0, q1, q2, q4, q5, q6, q7, q8, q9, q10, q11, q12, q13, q14, q15, q16, q17, binI, vInt_int]
        · exact wrap_i64 (by omega)
        · cases hm
          refine Prod.lex_def.2 (.inr ⟨rfl, ?_⟩)
          have e2 : IntKind.i64.wrap ((t : Int) + 1) = t + 1 := wrap_i64 (by omega)
          simp [e2]
          omega
      · exfalso
        have hm := hA'.1
        have hlt := hA'.2.1
        unfold meetsP rightP pu at hm
        rcases k1 with rfl | rfl <;> rcases k2 with rfl | rfl <;> rcases r1 with rfl | rfl <;> rcases r2 with rfl | rfl <;> simp only [if_true, if_neg (show ¬ (1 : Int) = 0 by omega)] at hm <;> omega
      · refine ⟨⟨w', h', x', y', j, u0, u1, u2, v0, v1, v2, ⟨⟨hl, hj, g⟩, ⟨?_, ?_, ?_, ?_⟩, ⟨?_, ?_, ?_, ?_⟩, ?_, ?_⟩, i + 1, ?_, .inl ⟨rfl, hi, ?_⟩⟩, fun m hm => ?_⟩
        all_goals try simp only [upd, lk_cons, lk_nil, Nat.reduceEqDiff, if_false, if_true, IE.eval, IE.reval, IE.aeval, q0, q1, q2, q4, q5, q6, q7, q8, q9, q10, q11, q12, q13, q14, q15, q16, q17, binI, vInt_int]
        · exact wrap_i64 (by omega)
        · cases hm
          refine Prod.lex_def.2 (.inl ?_)
          have e2 : IntKind.i64.wrap ((i : Int) + 1) = i + 1 := wrap_i64 (by omega)
          simp [e2]
          omega
  · simp only [allLeaves, AsOk_cons, AsOk_nil, BE.eval, cmpI, IE.eval, IE.reval, IE.aeval, hw, hh, hk, hd, hf, sel2, FN, g27, g28, g30, g31, List.headD_cons, decide_eq_true_eq, decide_eq_false_iff_not, and_true]
    have hlen : kidsC w h k x y = 0 → ∃ j : Nat, k = ((j + 1 : Nat) : Int) ∧ j ≤ 9 ∧ kidsLL w h k x y = kidsL (hvN j w) (hvN j h) x y ∧ hasC w h k x y = 0 := by
      intro hc
      obtain ⟨j, rfl, hj, _⟩ := kids_facts hc
      exact ⟨j, rfl, hj, by simp only [kidsLL, if_pos hc, Int.toNat_natCast, Nat.add_sub_cancel], (kidsC_zero.1 hc).1⟩
    refine ⟨fun hA' => ?_, fun hA' => ?_, fun hA' => ?_, fun _ => rfl⟩
    · obtain ⟨j, rfl, hj, hL, hH⟩ := hlen hA'.1
      obtain ⟨u0, u1, u2, v0, v1, v2, g⟩ := geo hA'.1
      have hp := g.par
      have hcn := cnt_le (hvN j w) (hvN j h) x y
      refine ⟨⟨w, h, x, y, j, u0, u1, u2, v0, v1, v2, ⟨⟨rfl, hj, g⟩, ⟨?_, ?_, ?_, ?_⟩, ⟨?_, ?_, ?_, ?_⟩, ?_, ?_⟩, 0, ?_, .inl ⟨rfl, by omega, ?_⟩⟩, fun m hm => by cases hm⟩
      all_goals try simp only [upd, lk_cons, lk_nil, Nat.reduceEqDiff, if_false, if_true, IE.eval, IE.reval, IE.aeval, hf, hw, hh, hk, hd, sel2, FN, g27, g28, g30, hp, hL, hH, sel4, vInt_int, List.headD_cons, kidsL_len]
      all_goals first | rfl | (simp; done) | omega
    · exfalso
      have := hA'.2
      rw [kidsLL, if_neg hA'.1] at this
      simp at this
    · exfalso
      obtain ⟨j, rfl, hj, hL, hH⟩ := hlen hA'.1
      have := hA'.2
      rw [hL, kidsL_len] at this
      have hcn := cnt_le (hvN j w) (hvN j h) x y
      omega

theorem vals2 (a b : Int) : vals C2 [a, b] = [.int .i64 a, .int .i64 b] := by simp [vals, kindAt]

end Go.Proofs.Ytagahpfinaaemaa
