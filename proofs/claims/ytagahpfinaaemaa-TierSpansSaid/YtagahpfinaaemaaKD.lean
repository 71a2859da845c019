import Derived.Test.YtagahpfinaaemaaKC

namespace Go.Proofs.Ytagahpfinaaemaa

open Go Go.Sym

set_option linter.unusedVariables false

theorem hasT_ok : PcOk Try.prog FN pcHasT := by
  refine pc_floyd (cs := []) mix pcHasT knSize (by decide) (by rfl) hasT_entry (fun _ _ _ => False) (fun _ _ _ => (0, 0)) (fun _ _ _ h => h.elim) ?_
  intro ls e0 hf hargs hrng hpre
  simp only [pcHasT, ArgsE, ArgE] at hargs
  obtain ⟨a, _, rfl, ha, b, _, rfl, hb, c, _, rfl, hc, d, _, rfl, ⟨hd, hl⟩, rfl⟩ := hargs
  obtain ⟨x, y, rfl⟩ := len2 hl
  obtain ⟨w, hw⟩ : ∃ n, vInt (e0.val 0) = n := ⟨_, rfl⟩
  obtain ⟨h, hh⟩ : ∃ n, vInt (e0.val 1) = n := ⟨_, rfl⟩
  obtain ⟨k, hk⟩ : ∃ n, vInt (e0.val 2) = n := ⟨_, rfl⟩
  simp only [Nat.zero_add, Nat.reduceAdd, hw, hh, hk] at ha hb hc hd
  subst ha; subst hb; subst hc
  refine ⟨fun _ _ => ⟨trivial, trivial⟩, ?_⟩
  simp only [allLeaves, AsOk_cons, AsOk_nil, BE.eval, cmpI, IE.eval, IE.reval, IE.aeval, hw, hh, hk, hd, hf, sel2, and_true, decide_eq_true_eq, decide_eq_false_iff_not, StepG, pcHasT, FN, g20, g21, g22, g23, g24, g25, g26, g27, g28, g29, List.headD_cons]
  by_cases hs : sizeC w h k = 0
  · simp only [hs, if_true]
    repeat' apply And.intro
    all_goals intro hA
    all_goals refine ⟨[_], rfl, ⟨_, rfl, ?_⟩, rfl⟩
    all_goals simp only [FN, g20, g21, g22, g23, g24, g25, g26, g27, g28, g29, IE.eval, IE.reval, IE.aeval, hf, hw, hh, hk, List.headD_cons, hasC, if_pos hs]
    all_goals first
      | (rw [if_neg (by omega)])
      | (rw [if_pos (by omega)])
      | exact absurd trivial hA
      | simp_all
  · simp only [hs, if_false]
    repeat' apply And.intro
    all_goals intro hA
    all_goals first | (exfalso; revert hA; simp; done) | skip
    all_goals refine ⟨[_], rfl, ⟨_, rfl, ?_⟩, rfl⟩
    all_goals simp only [FN, g20, g21, g22, g23, g24, g25, g26, g27, g28, g29, IE.eval, IE.reval, IE.aeval, hf, hw, hh, hk, List.headD_cons, hasC, if_neg hs]

theorem knHasT : ∀ env : Env, env.fn = FN → KnOk Try.prog env [pcHasT.ct] := fun env h => knOk_cons knOk_nil (Pc.ct_ok h hasT_ok)

theorem hasC_zero {w h k x y : Int} : hasC w h k x y = 0 ↔ (szOk w h ∧ 0 ≤ k ∧ k < ((lv 10 w h : Nat) : Int)) ∧ 0 ≤ x ∧ x < hvN k.toNat w ∧ 0 ≤ y ∧ y < hvN k.toNat h := by
  rw [← sizeC_zero]
  unfold hasC
  by_cases hs : sizeC w h k = 0
  · rw [if_pos hs]; split <;> simp_all
  · rw [if_neg hs]; simp [hs]

theorem hasC_bounds {w h k x y : Int} (hc : hasC w h k x y = 0) : ∃ j : Nat, k = j ∧ j ≤ 10 ∧ szOk w h ∧ 0 ≤ x ∧ x < hvN j w ∧ 0 ≤ y ∧ y < hvN j h ∧ x ≤ 1023 ∧ y ≤ 1023 := by
  obtain ⟨⟨h1, h2, h3⟩, h4, h5, h6, h7⟩ := hasC_zero.1 hc
  have h8 := lv_le 10 w h
  have h9 := h1
  unfold szOk at h9
  have q1 := hvN_le h9.1 k.toNat
  have q2 := hvN_le h9.2.2.1 k.toNat
  exact ⟨k.toNat, by omega, by omega, h1, h4, h5, h6, h7, by omega, by omega⟩

theorem pow10 {j : Nat} (h : j ≤ 10) : (1 : Int) ≤ 2 ^ j ∧ (2 : Int) ^ j ≤ 1024 := by
  have : ∀ j : Nat, j ≤ 10 → (1 : Int) ≤ 2 ^ j ∧ (2 : Int) ^ j ≤ 1024 := by decide
  exact this j h

theorem mul_pow {j : Nat} {x : Int} (h : j ≤ 10) (h1 : 0 ≤ x) (h2 : x ≤ 1024) : 0 ≤ x * 2 ^ j ∧ x * 2 ^ j ≤ 1048576 := by
  obtain ⟨p1, p2⟩ := pow10 h
  refine ⟨Int.mul_nonneg h1 (by omega), ?_⟩
  have := Int.mul_le_mul h2 p2 (by omega) (by omega)
  simpa using this

theorem shl_ok {j : Nat} {x : Int} (h : j ≤ 10) (h1 : 0 ≤ x) (h2 : x ≤ 1024) : binI .shl .i64 x (j : Int) = x * 2 ^ j := by
  obtain ⟨p1, p2⟩ := mul_pow h h1 h2
  have e : min (j : Int).toNat (IntKind.i64).bits = j := by simp [IntKind.bits]; omega
  simp only [binI, e]
  exact wrap_i64 (by omega)

theorem span_ok : PcOk Try.prog FN pcSpan := by
  refine pc_floyd (cs := []) mix pcSpan knHasT (by decide) (by rfl) span_entry (fun _ _ _ => False) (fun _ _ _ => (0, 0)) (fun _ _ _ h => h.elim) ?_
  intro ls e0 hf hargs hrng hpre
  simp only [pcSpan, ArgsE, ArgE] at hargs
  obtain ⟨a, _, rfl, ha, b, _, rfl, hb, c, _, rfl, hc, d, _, rfl, ⟨hd, hl⟩, rfl⟩ := hargs
  obtain ⟨x, y, rfl⟩ := len2 hl
  obtain ⟨w, hw⟩ : ∃ n, vInt (e0.val 0) = n := ⟨_, rfl⟩
  obtain ⟨h, hh⟩ : ∃ n, vInt (e0.val 1) = n := ⟨_, rfl⟩
  obtain ⟨k, hk⟩ : ∃ n, vInt (e0.val 2) = n := ⟨_, rfl⟩
  simp only [Nat.zero_add, Nat.reduceAdd, hw, hh, hk] at ha hb hc hd
  subst ha; subst hb; subst hc
  refine ⟨fun _ _ => ⟨trivial, trivial⟩, ?_⟩
  simp only [allLeaves, AsOk_cons, AsOk_nil, BE.eval, cmpI, IE.eval, IE.reval, IE.aeval, hw, hh, hk, hd, hf, sel2, and_true, decide_eq_true_eq, decide_eq_false_iff_not, StepG, pcSpan, FN, g20, g21, g22, g23, g24, g25, g26, g27, g28, g29, List.headD_cons]
  refine ⟨?_, ?_, ?_⟩
  · rintro ⟨h1, h2⟩
    obtain ⟨j, rfl, _⟩ := hasC_bounds h2
    omega
  · rintro ⟨h1, h2⟩
    obtain ⟨j, rfl, q1, q2, q3, q4, q5, q6, q7, q8⟩ := hasC_bounds h2
    unfold szOk at q2
    refine ⟨[_, _], rfl, ⟨_, rfl, rfl, ?_⟩, ⟨_, rfl, ?_⟩, rfl⟩
    · have e1 : IntKind.i64.wrap (x + 1) = x + 1 := wrap_i64 (by omega)
      have e2 : IntKind.i64.wrap (y + 1) = y + 1 := wrap_i64 (by omega)
      have p1 := mul_pow (x := x + 1) q1 (by omega) (by omega)
      have p2 := mul_pow (x := y + 1) q1 (by omega) (by omega)
      have s1 := shl_ok (x := x) q1 (by omega) (by omega)
      have s2 := shl_ok (x := y) q1 (by omega) (by omega)
      have s3 := shl_ok (x := x + 1) q1 (by omega) (by omega)
      have s4 := shl_ok (x := y + 1) q1 (by omega) (by omega)
      have t1 : binI .add .i64 x 1 = x + 1 := e1
      have t2 : binI .add .i64 y 1 = y + 1 := e2
      have m1 : ∀ a b : Int, binI .lss .i64 a b = min a b := fun a b => by show (if b < a then b else a) = min a b; omega
      simp only [FN, g20, g21, g22, g23, g24, g25, g26, g27, g28, g29, IE.eval, IE.reval, hw, hh, hk, hd, sel2, t1, t2, s1, s2, s3, s4, m1, spanL, if_pos h2, Int.toNat_natCast]
      simp only [binI]
      rw [wrap_i64 (by omega), wrap_i64 (by omega)]
    · simp only [FN, g20, g21, g22, g23, g24, g25, g26, g27, g28, g29, IE.eval, List.headD_cons, h2]
  · intro h2
    refine ⟨[_, _], rfl, ⟨_, rfl, rfl, ?_⟩, ⟨_, rfl, ?_⟩, rfl⟩
    · simp only [FN, g20, g21, g22, g23, g24, g25, g26, g27, g28, g29, IE.eval, IE.reval, spanL, if_neg h2]
    · simp only [FN, g20, g21, g22, g23, g24, g25, g26, g27, g28, g29, IE.eval, IE.reval, IE.aeval, hf, hw, hh, hk, hd, sel2, List.headD_cons]

end Go.Proofs.Ytagahpfinaaemaa
