import Derived.Test.YtagahpfinaaemaaKE

namespace Go.Proofs.Ytagahpfinaaemaa

open Go Go.Sym

set_option linter.unusedVariables false

theorem kidsC_zero {w h k x y : Int} : kidsC w h k x y = 0 ↔ hasC w h k x y = 0 ∧ k ≠ 0 := by
  unfold kidsC
  by_cases hs : szOk w h
  · rw [if_pos hs]; split <;> simp_all
  · rw [if_neg hs]
    refine ⟨fun h => absurd h (by omega), fun h => ?_⟩
    exact absurd (hasC_zero.1 h.1).1.1 hs

theorem kids_facts {w h k x y : Int} (hc : kidsC w h k x y = 0) : ∃ j : Nat, k = ((j + 1 : Nat) : Int) ∧ j ≤ 9 ∧ sizeC w h j = 0 ∧ hvN j w ≤ 1024 ∧ hvN j h ≤ 1024 ∧ 0 ≤ x ∧ 0 ≤ y ∧ 2 * x < hvN j w ∧ 2 * y < hvN j h := by
  obtain ⟨h1, h2⟩ := kidsC_zero.1 hc
  obtain ⟨i, rfl, q1, q2, q3, q4, q5, q6, q7, q8⟩ := hasC_bounds h1
  obtain ⟨j, rfl⟩ : ∃ j, i = j + 1 := ⟨i - 1, by omega⟩
  have q9 := hasC_zero.1 h1
  have q10 := q2
  unfold szOk at q10
  have p1 := hvN_le q10.1 j
  have p2 := hvN_le q10.2.2.1 j
  have e1 : hvN (j + 1) w = (hvN j w + 1) / 2 := rfl
  have e2 : hvN (j + 1) h = (hvN j h + 1) / 2 := rfl
  exact ⟨j, rfl, by omega, sizeC_zero.2 ⟨q2, by omega, by omega⟩, by omega, by omega, q3, q5, by omega, by omega⟩

theorem kids_ok : PcOk Try.prog FN pcKids := by
  refine pc_floyd (cs := cutsK) mix pcKids knKids (by decide) kids_rounds kids_entry invK (fun ls i env => ((5000 - vInt (env.val 6)).toNat, if i % 2 = 0 then 5000 else (4000 - vInt (env.val 7)).toNat))
    (fun ls i env h => by obtain ⟨A, B, x, y, y', _, h⟩ := h; simp; omega) ?_
  intro ls e0 hf hargs hrng hpre
  simp only [pcKids, ArgsE, ArgE] at hargs
  obtain ⟨a, _, rfl, ha, b, _, rfl, hb, c, _, rfl, hc, d, _, rfl, ⟨hd, hl⟩, rfl⟩ := hargs
  obtain ⟨x, y, rfl⟩ := len2 hl
  obtain ⟨w, hw⟩ : ∃ n, vInt (e0.val 0) = n := ⟨_, rfl⟩
  obtain ⟨h, hh⟩ : ∃ n, vInt (e0.val 1) = n := ⟨_, rfl⟩
  obtain ⟨k, hk⟩ : ∃ n, vInt (e0.val 2) = n := ⟨_, rfl⟩
  simp only [Nat.zero_add, Nat.reduceAdd, hw, hh, hk] at ha hb hc hd
  subst ha; subst hb; subst hc
  refine ⟨fun env hfn => ⟨⟨fun _ => by simp only [AsOk_nil], fun _ => by simp only [AsOk_nil], ?_, ?_, trivial⟩, ⟨?_, ?_, ?_, ?_, trivial⟩⟩, ?_⟩
  · rintro ⟨A, B, x, y, y', hcom, h | h | ⟨_, h4, c, h5, h6⟩ | h⟩
    · omega
    · omega
    · have := doneK_len A x y y'
      simp only [asK, nonneg, atmB, AsOk_cons, AsOk_nil, BE.eval, cmpI, IE.eval, h5]
      simp; omega
    · omega
  · rintro ⟨A, B, x, y, y', hcom, h | h | h | ⟨_, x', g1, g2, g3, g4, h4, c, h5, h6⟩⟩
    · omega
    · omega
    · omega
    · have := doneK_len A x y y'
      have := partK_len x x' y'
      rw [List.length_append] at h6
      simp only [asK, nonneg, atmB, AsOk_cons, AsOk_nil, BE.eval, cmpI, IE.eval, h5]
      simp; omega
  · -- rows, none yet
    rintro ⟨A, B, x0, y0, y', ⟨⟨w0, h0, k0, hl, hok, hA, hB⟩, ⟨q1, q2, q3, q4⟩, b1, b2, b3, b4, b5, b6, b7, b8⟩, h | h | h | h⟩
    · simp only [List.cons.injEq, and_true] at hl
      obtain ⟨rfl, rfl, rfl, rfl, rfl⟩ := hl
      obtain ⟨_, rfl⟩ := h
      simp only [allLeaves, AsOk_cons, AsOk_nil, BE.eval, cmpI, IE.eval, IE.reval, q1, q2, q3, q4, sel2, and_true, decide_eq_true_eq, decide_eq_false_iff_not, binI]
      simp (disch := omega) only [wrap_i64]
      refine ⟨fun hA' => ?_, fun hA' => ?_⟩
      · refine stepG_cut ⟨A, B, x, y, 2 * y, ⟨⟨w, h, k, rfl, hok, hA, hB⟩, ⟨?_, ?_, ?_, ?_⟩, b1, b2, b3, b4, b5, b6, b7, b8⟩, .inr (.inl ⟨rfl, rfl, ?_⟩)⟩ (Prod.lex_def.2 ?_)
        all_goals simp (disch := omega) [upd, lk_cons, lk_nil, IE.eval, IE.reval, binI, q1, q2, q3, q4, sel2, vInt_int, wrap_i64]
        all_goals omega
      · exfalso; split at hA' <;> omega
    · omega
    · omega
    · omega
  · -- cells, none yet
    rintro ⟨A, B, x0, y0, y', ⟨⟨w0, h0, k0, hl, hok, hA, hB⟩, ⟨q1, q2, q3, q4⟩, b1, b2, b3, b4, b5, b6, b7, b8⟩, h | h | h | h⟩
    · omega
    · simp only [List.cons.injEq, and_true] at hl
      obtain ⟨rfl, rfl, rfl, rfl, rfl⟩ := hl
      obtain ⟨_, rfl, q5⟩ := h
      simp only [allLeaves, AsOk_cons, AsOk_nil, BE.eval, cmpI, IE.eval, IE.reval, q1, q2, q3, q4, q5, sel2, and_true, decide_eq_true_eq, decide_eq_false_iff_not, binI]
      simp (disch := omega) only [wrap_i64]
      refine ⟨fun hA' => ?_, fun hA' => ?_⟩
      · refine stepG_cut ⟨A, B, x, y, 2 * y, ⟨⟨w, h, k, rfl, hok, hA, hB⟩, ⟨?_, ?_, ?_, ?_⟩, b1, b2, b3, b4, b5, b6, b7, b8⟩, .inr (.inr (.inr ⟨rfl, 2 * x + 1, ?_, by omega, by omega, by omega, ?_, 1, ?_, ?_⟩))⟩ (Prod.lex_def.2 ?_)
        all_goals simp (disch := omega) [upd, lk_cons, lk_nil, IE.eval, IE.reval, binI, q1, q2, q3, q4, q5, doneK, partK, (show ¬ (2 * x + 1 = 2 * x) by omega), sel2, vInt_int, wrap_i64]
        all_goals try omega
      · exfalso; split at hA' <;> omega
    · omega
    · omega
  · -- rows
    rintro ⟨A, B, x0, y0, y', ⟨⟨w0, h0, k0, hl, hok, hA, hB⟩, ⟨q1, q2, q3, q4⟩, b1, b2, b3, b4, b5, b6, b7, b8⟩, h | h | h | h⟩
    · omega
    · omega
    · simp only [List.cons.injEq, and_true] at hl
      obtain ⟨rfl, rfl, rfl, rfl, rfl⟩ := hl
      obtain ⟨_, q5, c, q6, q7⟩ := h
      simp only [allLeaves, AsOk_cons, AsOk_nil, BE.eval, cmpI, IE.eval, IE.reval, q1, q2, q3, q4, q5, q6, sel2, and_true, decide_eq_true_eq, decide_eq_false_iff_not, binI]
      simp (disch := omega) only [wrap_i64]
      refine ⟨fun hA' => ?_, fun hA' => ?_⟩
      · refine stepG_cut ⟨A, B, x, y, y', ⟨⟨w, h, k, rfl, hok, hA, hB⟩, ⟨?_, ?_, ?_, ?_⟩, b1, b2, b3, b4, b5, b6, b7, b8⟩, .inr (.inr (.inr ⟨rfl, 2 * x, ?_, by omega, by omega, ?_, ?_, c, ?_, ?_⟩))⟩ (Prod.lex_def.2 ?_)
        all_goals try simp (disch := omega) [upd, lk_cons, lk_nil, IE.eval, IE.reval, binI, q1, q2, q3, q4, q5, q6, partK, sel2, vInt_int, wrap_i64]
        all_goals first | omega | (have := hA'.1; split at this <;> omega)
      · have e := doneK_end (A := A) (x := x) b6 (y' := y') (by have := hA'.1; split at this <;> omega)
        refine ⟨[_, _], rfl, ⟨by decide, _, rfl, ?_, ?_⟩, ⟨_, rfl, ?_⟩, rfl⟩
        · rw [subE_eval (by simp only [IE.reval, IE.eval, q5, q6]; simp; omega)]; simp only [IE.reval, IE.eval, q5, q6, subL, pcKids, FN, g30, kidsLL, if_pos hok, ← hA, ← hB, ← e]
          have : c.toNat * C2.length = (doneK A x y y').length := by simp; omega
          rw [this]; simp
        · refine ⟨by simp only [IE.eval, q6]; omega, fun B r cnt ks' h1 h2 => ?_⟩
          obtain rfl := Option.some.inj h1
          cases h2
          exact Int.le_refl _
        · simp only [IE.eval, pcKids, FN, g31, hok, List.headD_cons]
    · omega
  · -- cells
    rintro ⟨A, B, x0, y0, y', ⟨⟨w0, h0, k0, hl, hok, hA, hB⟩, ⟨q1, q2, q3, q4⟩, b1, b2, b3, b4, b5, b6, b7, b8⟩, h | h | h | h⟩
    · omega
    · omega
    · omega
    · simp only [List.cons.injEq, and_true] at hl
      obtain ⟨rfl, rfl, rfl, rfl, rfl⟩ := hl
      obtain ⟨_, x', q5, g1, g2, g3, q6, c, q7, q8⟩ := h
      simp only [allLeaves, AsOk_cons, AsOk_nil, BE.eval, cmpI, IE.eval, IE.reval, q1, q2, q3, q4, q5, q6, q7, sel2, and_true, decide_eq_true_eq, decide_eq_false_iff_not, binI]
      simp (disch := omega) only [wrap_i64]
      refine ⟨fun hA' => ?_, fun hA' => ?_⟩
      · have p1 := partK_step (y' := y') g1 (by have := hA'.1; split at this <;> omega)
        refine stepG_cut ⟨A, B, x, y, y', ⟨⟨w, h, k, rfl, hok, hA, hB⟩, ⟨?_, ?_, ?_, ?_⟩, b1, b2, b3, b4, b5, b6, b7, b8⟩, .inr (.inr (.inr ⟨rfl, x' + 1, ?_, by omega, by have := hA'.1; split at this <;> omega, by omega, ?_, c + 1, ?_, ?_⟩))⟩ (Prod.lex_def.2 ?_)
        all_goals simp (disch := omega) [upd, lk_cons, lk_nil, IE.eval, IE.reval, binI, q1, q2, q3, q4, q5, q6, q7, p1, sel2, vInt_int, wrap_i64]
        all_goals first | omega | (rw [List.length_append] at q8; omega) | (have := hA'.1; split at this <;> omega)
      · have p1 := partK_end (y' := y') b5 (show x' = min A (2 * x + 2) by have := hA'.1; split at this <;> omega)
        have p2 := doneK_step (A := A) (x := x) b7 (by omega : y' < 2 * y + 2)
        rw [p1, ← p2] at q6 q8
        refine stepG_cut ⟨A, B, x, y, y' + 1, ⟨⟨w, h, k, rfl, hok, hA, hB⟩, ⟨?_, ?_, ?_, ?_⟩, b1, b2, b3, b4, b5, b6, by omega, by omega⟩, .inr (.inr (.inl ⟨rfl, ?_, c, ?_, q8⟩))⟩ (Prod.lex_def.2 ?_)
        all_goals simp (disch := omega) [upd, lk_cons, lk_nil, IE.eval, IE.reval, binI, q1, q2, q3, q4, q5, q6, q7, sel2, vInt_int, wrap_i64]
        all_goals omega
  · simp only [allLeaves, AsOk_cons, AsOk_nil, BE.eval, cmpI, IE.eval, IE.reval, IE.aeval, hw, hh, hk, hd, hf, sel2, FN, g22, g23, g24, g25, g26, List.headD_cons, levC_zero, and_true, decide_eq_true_eq, decide_eq_false_iff_not]
    refine ⟨?_, ?_, ?_, ?_, ?_⟩
    · rintro ⟨h1, h2⟩
      have e : kidsC w h k x y = 11 := by simp only [kidsC, if_pos h2, if_pos h1]
      refine ⟨[_, _], rfl, ⟨by decide, _, rfl, ?_, trivial⟩, ⟨_, rfl, ?_⟩, rfl⟩
      · simp [IE.reval, pcKids, FN, g30, kidsLL, e]
      · simp [IE.eval, pcKids, FN, g31, e]
    · rintro ⟨h1, h2, h3, h4⟩
      have hok := kidsC_zero.2 ⟨h2, h3⟩
      obtain ⟨j, rfl, p1, p2, p3, p4, p5, p6, p7, p8⟩ := kids_facts hok
      have e : IntKind.i64.wrap (((j + 1 : Nat) : Int) - 1) = j := by rw [wrap_i64 (by omega)]; omega
      have e' : IntKind.i64.wrap (j : Int) = j := wrap_i64 (by omega)
      refine stepG_cut0 ⟨hvN j w, hvN j h, x, y, 2 * y, ⟨⟨w, h, ((j + 1 : Nat) : Int), rfl, hok, by simp, by simp⟩, ⟨?_, ?_, ?_, ?_⟩, p5, p6, p3, p4, p7, p8, by omega, by omega⟩, .inl ⟨rfl, rfl⟩⟩
      · simp [upd, lk_nil, hd]
      · simp [upd, lk_cons, lk_nil, IE.eval, IE.reval, IE.aeval, hf, FN, g23, hw, hh, hk, binI, vInt_int, e, e', p2]
      · simp [upd, lk_cons, lk_nil, IE.eval, IE.reval, IE.aeval, hf, FN, g24, hw, hh, hk, binI, vInt_int, e, e', p2]
      · simp (disch := omega) [upd, lk_cons, lk_nil, IE.eval, IE.reval, hd, sel2, binI, vInt_int, wrap_i64]
    · rintro ⟨h1, h2, h3, h4⟩
      have hok := kidsC_zero.2 ⟨h2, h3⟩
      obtain ⟨j, rfl, p1, p2, p3, p4, p5, p6, p7, p8⟩ := kids_facts hok
      have e : IntKind.i64.wrap (((j + 1 : Nat) : Int) - 1) = j := by rw [wrap_i64 (by omega)]; omega
      simp only [binI, e] at h1
      exact absurd p2 h1
    · rintro ⟨h1, h2, h3⟩
      have e : kidsC w h k x y = hasC w h k x y := by simp only [kidsC, if_pos h3, if_neg h2]
      refine ⟨[_, _], rfl, ⟨by decide, _, rfl, ?_, trivial⟩, ⟨_, rfl, ?_⟩, rfl⟩
      · simp [IE.reval, pcKids, FN, g30, kidsLL, e, h1]
      · simp [IE.eval, IE.reval, IE.aeval, hf, hw, hh, hk, hd, sel2, pcKids, FN, g26, g31, e]
    · intro h1
      have e : kidsC w h k x y = 3 := by simp only [kidsC, if_neg h1]
      refine ⟨[_, _], rfl, ⟨by decide, _, rfl, ?_, trivial⟩, ⟨_, rfl, ?_⟩, rfl⟩
      · simp [IE.reval, pcKids, FN, g30, kidsLL, e]
      · simp [IE.eval, IE.reval, IE.aeval, hf, hw, hh, levC, pcKids, FN, g22, g31, e, if_neg h1]

end Go.Proofs.Ytagahpfinaaemaa
