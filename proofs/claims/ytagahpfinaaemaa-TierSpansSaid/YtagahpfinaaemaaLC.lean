import Derived.Test.YtagahpfinaaemaaLB

namespace Go.Proofs.Ytagahpfinaaemaa

open Go Go.Sym

set_option linter.unusedVariables false

theorem knSizes : ∀ env : Env, env.fn = FN → KnOk Try.prog env [pcSizes.ct] := fun env h => knOk_cons knOk_nil (Pc.ct_ok h sizes_ok)

theorem szSel {w h : Int} {k : Nat} (hk : k < lv 10 w h) : selL (szL 10 w h) (k : Int) 2 0 = hvN k w ∧ selL (szL 10 w h) (k : Int) 2 1 = hvN k h := by
  obtain ⟨h1, h2⟩ := szL_get 10 w h k hk
  simp only [selL, Int.toNat_natCast, Nat.mul_comm k 2, Nat.add_zero, h1, h2, Option.getD_some, and_self]

theorem szLen (w h : Int) : (szL 10 w h).length / 2 = lv 10 w h := by rw [szL_len]; omega

theorem may_ok : PcOk Try.prog FN pcMay := by
  refine pc_floyd (cs := []) mix pcMay knSizes (by decide) (by rfl) may_entry (fun _ _ _ => False) (fun _ _ _ => (0, 0)) (fun _ _ _ h => h.elim) ?_
  intro ls e0 hf hargs hrng hpre
  simp only [pcMay, ArgsE, ArgE] at hargs
  obtain ⟨a, _, rfl, ha, b, _, rfl, hb, c, _, rfl, hc, d, _, rfl, hd, e, _, rfl, ⟨he, hl⟩, rfl⟩ := hargs
  obtain ⟨x, y, rfl⟩ := len2 hl
  obtain ⟨w, hw⟩ : ∃ n, vInt (e0.val 0) = n := ⟨_, rfl⟩
  obtain ⟨h, hh⟩ : ∃ n, vInt (e0.val 1) = n := ⟨_, rfl⟩
  obtain ⟨k, hk⟩ : ∃ n, vInt (e0.val 2) = n := ⟨_, rfl⟩
  obtain ⟨t, ht⟩ : ∃ n, vInt (e0.val 3) = n := ⟨_, rfl⟩
  simp only [Nat.zero_add, Nat.reduceAdd, hw, hh, hk, ht] at ha hb hc hd he
  subst ha; subst hb; subst hc; subst hd
  refine ⟨fun _ _ => ⟨trivial, trivial⟩, ?_⟩
  have hpre' : mayP w h k t = true := by
    have := hpre.1
    simp only [FN, g36, encB_headD] at this
    split at this
    · assumption
    · omega
  have hp : sizeC w h k = 0 → 0 ≤ t ∧ t < ((lv 10 w h : Nat) : Int) := of_decide_eq_true hpre'
  by_cases hs : szOk w h
  · have hg : FN 34 [[w], [h]] = szL 10 w h := by simp only [FN, g34, if_pos hs]
    have hlp := lv_pos 10 w h
    by_cases hkr : 0 ≤ k ∧ k < ((lv 10 w h : Nat) : Int)
    · obtain ⟨q1, q2⟩ := hp (sizeC_zero.2 ⟨hs, hkr⟩)
      obtain ⟨n, rfl⟩ : ∃ n : Nat, t = n := ⟨t.toNat, by omega⟩
      obtain ⟨s1, s2⟩ := szSel (w := w) (h := h) (k := n) (by omega)
      simp only [allLeaves, AsOk_cons, AsOk_nil, BE.eval, cmpI, IE.eval, IE.reval, IE.aeval, hw, hh, hk, ht, he, hf, hg, szLen, s1, s2, sel2, and_true, decide_eq_true_eq, decide_eq_false_iff_not, StepG, pcMay]
      repeat' apply And.intro
      all_goals intro hA
      all_goals first
        | (exfalso; omega)
        | (refine ⟨[_], rfl, ⟨_, rfl, ?_⟩, rfl⟩; simp only [FN, g35, IE.eval, List.headD_cons, mayC, if_pos hs, if_pos hkr, Int.toNat_natCast]; first | rw [if_pos (by omega)] | rw [if_neg (by omega)])
    · simp only [allLeaves, AsOk_cons, AsOk_nil, BE.eval, cmpI, IE.eval, IE.reval, IE.aeval, hw, hh, hk, ht, he, hf, hg, szLen, sel2, and_true, decide_eq_true_eq, decide_eq_false_iff_not, StepG, pcMay]
      repeat' apply And.intro
      all_goals intro hA
      all_goals first
        | (exfalso; omega)
        | (refine ⟨[_], rfl, ⟨_, rfl, ?_⟩, rfl⟩; simp only [FN, g35, IE.eval, List.headD_cons, mayC, if_pos hs, if_neg hkr])
  · have hg : FN 34 [[w], [h]] = [] := by simp only [FN, g34, if_neg hs]
    simp only [allLeaves, AsOk_cons, AsOk_nil, BE.eval, cmpI, IE.eval, IE.reval, IE.aeval, hw, hh, hk, ht, he, hf, hg, List.length_nil, sel2, and_true, decide_eq_true_eq, decide_eq_false_iff_not, StepG, pcMay]
    repeat' apply And.intro
    all_goals intro hA
    all_goals first
      | (exfalso; omega)
      | (refine ⟨[_], rfl, ⟨_, rfl, ?_⟩, rfl⟩; simp only [FN, g35, IE.eval, List.headD_cons, mayC, if_neg hs])

theorem knAbove : ∀ env : Env, env.fn = FN → KnOk Try.prog env [pcSize.ct, pcHasT.ct] := fun env h => knOk_cons (knOk_cons knOk_nil (Pc.ct_ok h hasT_ok)) (Pc.ct_ok h size_ok)

theorem sizeC_bounds {w h k : Int} (hc : sizeC w h k = 0) : ∃ j : Nat, k = j ∧ j ≤ 10 := by
  obtain ⟨h1, h2, h3⟩ := sizeC_zero.1 hc
  have h8 := lv_le 10 w h
  exact ⟨k.toNat, by omega, by omega⟩

theorem above_ok : PcOk Try.prog FN pcAbove := by
  refine pc_floyd (cs := []) mix pcAbove knAbove (by decide) (by rfl) above_entry (fun _ _ _ => False) (fun _ _ _ => (0, 0)) (fun _ _ _ h => h.elim) ?_
  intro ls e0 hf hargs hrng hpre
  simp only [pcAbove, ArgsE, ArgE] at hargs
  obtain ⟨a, _, rfl, ha, b, _, rfl, hb, c, _, rfl, hc, d, _, rfl, ⟨hd, hl⟩, rfl⟩ := hargs
  obtain ⟨x, y, rfl⟩ := len2 hl
  obtain ⟨w, hw⟩ : ∃ n, vInt (e0.val 0) = n := ⟨_, rfl⟩
  obtain ⟨h, hh⟩ : ∃ n, vInt (e0.val 1) = n := ⟨_, rfl⟩
  obtain ⟨k, hk⟩ : ∃ n, vInt (e0.val 2) = n := ⟨_, rfl⟩
  simp only [Nat.zero_add, Nat.reduceAdd, hw, hh, hk] at ha hb hc hd
  subst ha; subst hb; subst hc
  refine ⟨fun _ _ => ⟨trivial, trivial⟩, ?_⟩
  simp only [allLeaves, AsOk_cons, AsOk_nil, BE.eval, cmpI, IE.eval, IE.reval, IE.aeval, hw, hh, hk, hd, hf, sel2, and_true, decide_eq_true_eq, decide_eq_false_iff_not, StepG, pcAbove, FN, g25, g26, List.headD_cons]
  refine ⟨?_, ?_, ?_, ?_⟩
  · rintro ⟨h1, h2, h3⟩
    obtain ⟨j, rfl, _⟩ := sizeC_bounds h3
    omega
  · rintro ⟨h1, h2, h3⟩
    have e : aboveC w h k x y = 0 := by rw [aboveC, if_pos h3]; exact h2
    obtain ⟨j, rfl, hj⟩ := sizeC_bounds h3
    refine ⟨[_, _], rfl, ⟨_, rfl, rfl, ?_⟩, ⟨_, rfl, ?_⟩, rfl⟩
    · have em : min j (IntKind.i64).bits = j := by simp [IntKind.bits]; omega
      have hp : (0 : Int) < 2 ^ j := Int.pow_pos (by omega)
      simp only [FN, g32, aboveL, if_pos e, IE.reval, IE.eval, hd, hk, sel2, binI, Int.toNat_natCast, em, Int.fdiv_eq_ediv_of_nonneg _ (Int.le_of_lt hp)]
    · simp only [FN, g33, IE.eval, List.headD_cons, e]
  · rintro ⟨h1, h2⟩
    have e : aboveC w h k x y = hasC w h 0 x y := by rw [aboveC, if_pos h2]
    refine ⟨[_, _], rfl, ⟨_, rfl, rfl, ?_⟩, ⟨_, rfl, ?_⟩, rfl⟩
    · simp only [FN, g32, aboveL, e, if_neg h1, IE.reval, IE.eval]
    · simp only [FN, g33, g26, IE.eval, IE.reval, IE.aeval, hf, hw, hh, hd, sel2, List.headD_cons, e]
  · intro h1
    have e : aboveC w h k x y = sizeC w h k := by rw [aboveC, if_neg h1]
    refine ⟨[_, _], rfl, ⟨_, rfl, rfl, ?_⟩, ⟨_, rfl, ?_⟩, rfl⟩
    · simp only [FN, g32, aboveL, e, if_neg h1, IE.reval, IE.eval]
    · simp only [FN, g33, g25, IE.eval, IE.reval, IE.aeval, hf, hw, hh, hk, List.headD_cons, e]

theorem kidsR_ok : PcOk Try.prog FN pcKidsR := by
  refine pc_floyd (cs := []) mix pcKidsR knSizes (by decide) (by rfl) kidsR_entry (fun _ _ _ => False) (fun _ _ _ => (0, 0)) (fun _ _ _ h => h.elim) ?_
  intro ls e0 hf hargs hrng hpre
  simp only [pcKidsR, ArgsE, ArgE] at hargs
  obtain ⟨a, _, rfl, ha, b, _, rfl, hb, c, _, rfl, hc, d, _, rfl, ⟨hd, hl⟩, rfl⟩ := hargs
  obtain ⟨x, y, rfl⟩ := len2 hl
  obtain ⟨w, hw⟩ : ∃ n, vInt (e0.val 0) = n := ⟨_, rfl⟩
  obtain ⟨h, hh⟩ : ∃ n, vInt (e0.val 1) = n := ⟨_, rfl⟩
  obtain ⟨k, hk⟩ : ∃ n, vInt (e0.val 2) = n := ⟨_, rfl⟩
  simp only [Nat.zero_add, Nat.reduceAdd, hw, hh, hk] at ha hb hc hd
  subst ha; subst hb; subst hc
  refine ⟨fun _ _ => ⟨trivial, trivial⟩, ?_⟩
  have hok : kidsC w h k x y = 0 := by
    have := hpre.1
    simp only [FN, g39, encB_headD] at this
    split at this
    · rename_i hq; exact of_decide_eq_true hq
    · omega
  have hs := (hasC_zero.1 (kidsC_zero.1 hok).1).1.1
  have hlt := (hasC_zero.1 (kidsC_zero.1 hok).1).1.2.2
  obtain ⟨j, rfl, p1, p2, p3, p4, p5, p6, p7, p8⟩ := kids_facts hok
  obtain ⟨s1, s2⟩ := szSel (w := w) (h := h) (k := j) (by omega)
  have hg : FN 34 [[w], [h]] = szL 10 w h := by simp only [FN, g34, if_pos hs]
  have e1 : IntKind.i64.wrap (((j + 1 : Nat) : Int) - 1) = j := by rw [wrap_i64 (by omega)]; omega
  have e2 : IntKind.i64.wrap (2 * x) = 2 * x := wrap_i64 (by omega)
  have e3 : IntKind.i64.wrap (2 * y) = 2 * y := wrap_i64 (by omega)
  have e4 : IntKind.i64.wrap (2 * x + 0) = 2 * x := by rw [wrap_i64 (by omega)]; omega
  have e5 : IntKind.i64.wrap (2 * y + 0) = 2 * y := by rw [wrap_i64 (by omega)]; omega
  have e6 : IntKind.i64.wrap (2 * x + 1) = 2 * x + 1 := wrap_i64 (by omega)
  have e7 : IntKind.i64.wrap (2 * y + 1) = 2 * y + 1 := wrap_i64 (by omega)
  have hpos := lv_pos 10 w h
  have f1 : ¬ ((j : Int) < 0) := by omega
  have f2 : (j : Int) < ((lv 10 w h : Nat) : Int) := by omega
  have f3 : (0 : Int) < ((lv 10 w h : Nat) : Int) := by omega
  have hkl : kidsLL w h ((j + 1 : Nat) : Int) x y = kidsL (hvN j w) (hvN j h) x y := by simp only [kidsLL, if_pos hok, Int.toNat_natCast, Nat.add_sub_cancel]
  simp only [allLeaves, AsOk_cons, AsOk_nil, BE.eval, cmpI, IE.eval, IE.reval, IE.aeval, hw, hh, hk, hd, hf, hg, szLen, binI, e1, e2, e3, e4, e5, e6, e7, s1, s2, sel2, p7, p8, f1, f2, f3, and_true, decide_eq_true_eq, decide_eq_false_iff_not, not_true_eq_false, not_false_eq_true, false_and, and_false, true_and, false_imp_iff, decide_true, decide_false, Bool.true_eq_false, Bool.false_eq_true]
  have fin : ∀ (L : List Int), kidsL (hvN j w) (hvN j h) x y = L → FN 38 [[w], [h], [((j + 1 : Nat) : Int)], [x, y]] = L := by
    intro L hL
    simp only [FN, g38, hkl, hL]
  by_cases hx : 2 * x + 1 < hvN j w <;> by_cases hy : 2 * y + 1 < hvN j h
  all_goals simp only [hx, hy, and_true, decide_eq_true_eq, decide_eq_false_iff_not, not_true_eq_false, not_false_eq_true, false_and, and_false, true_and, false_imp_iff, true_imp_iff, decide_true, decide_false, Bool.true_eq_false, Bool.false_eq_true]
  all_goals refine ⟨[_], rfl, ⟨by decide, _, rfl, ?_, ?_⟩, rfl⟩
  all_goals first
    | (refine ⟨by simp [IE.eval], fun B r cnt ks' h1 h2 => ?_⟩
       obtain rfl := Option.some.inj h1
       cases h2
       exact Int.le_refl _)
    | (rw [subE_eval (by simp [IE.eval, IE.reval])]
       simp only [IE.eval, IE.reval, hd, sel2, binI, e2, e3, e4, e5, e6, e7]
       refine Eq.trans ?_ (fin _ rfl).symm
       simp [subL, kidsL, rowK, hx, hy])

end Go.Proofs.Ytagahpfinaaemaa
