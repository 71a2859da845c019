import Derived.Test.YtagahpfinaaemaaRB

namespace Go.Proofs.Ytagahpfinaaemaa

open Go Go.Sym

set_option linter.unusedVariables false

theorem aroundE_within (cx cy n w h : Int) : aroundE cx cy n w h = if withinC cx cy cx cy w h = 0 then (if 0 ≤ n ∧ n ≤ 1024 then 0 else 9) else withinC cx cy cx cy w h := by
  unfold aroundE withinC
  by_cases h1 : 1 ≤ w ∧ w ≤ 1024 ∧ 1 ≤ h ∧ h ≤ 1024
  · simp only [if_pos h1]
    by_cases h2 : 0 ≤ cx ∧ cx < w ∧ 0 ≤ cy ∧ cy < h
    · have h3 : 0 ≤ cx ∧ cx < w ∧ 0 ≤ cx ∧ cx < w ∧ 0 ≤ cy ∧ cy < h ∧ 0 ≤ cy ∧ cy < h := by omega
      have h4 : ¬ (cx < cx ∨ cy < cy) := by omega
      simp only [if_pos h2, if_pos h3, if_neg h4, if_true]
    · have h3 : ¬ (0 ≤ cx ∧ cx < w ∧ 0 ≤ cx ∧ cx < w ∧ 0 ≤ cy ∧ cy < h ∧ 0 ≤ cy ∧ cy < h) := by omega
      rw [if_neg h2, if_neg h3, if_neg (by omega)]
  · simp only [if_neg h1]; rw [if_neg (by omega)]

theorem aroundE_zero {cx cy n w h : Int} : aroundE cx cy n w h = 0 ↔ (1 ≤ w ∧ w ≤ 1024 ∧ 1 ≤ h ∧ h ≤ 1024) ∧ (0 ≤ cx ∧ cx < w ∧ 0 ≤ cy ∧ cy < h) ∧ 0 ≤ n ∧ n ≤ 1024 := by
  unfold aroundE
  repeat' split
  all_goals omega

theorem withinC_zero {x0 y0 x1 y1 w h : Int} : withinC x0 y0 x1 y1 w h = 0 ↔ (1 ≤ w ∧ w ≤ 1024 ∧ 1 ≤ h ∧ h ≤ 1024) ∧ (0 ≤ x0 ∧ x0 < w ∧ 0 ≤ x1 ∧ x1 < w ∧ 0 ≤ y0 ∧ y0 < h ∧ 0 ≤ y1 ∧ y1 < h) ∧ x0 ≤ x1 ∧ y0 ≤ y1 := by
  unfold withinC
  repeat' split
  all_goals omega

theorem clip_lo {a : Int} (h : a < 1024) : clipI a = max 0 a := by unfold clipI; split <;> (try split) <;> omega

theorem clip_hi {a : Int} (h : 0 ≤ a) : clipI a = min 1023 a := by unfold clipI; split <;> (try split) <;> omega

theorem aroundR_ok : PcOk Try.prog FN pcAroundR := by
  refine pc_floyd (cs := []) mix pcAroundR knAroundR_ok (by decide) (by rfl) aroundR_entry (fun _ _ _ => False) (fun _ _ _ => (0, 0)) (fun _ _ _ h => h.elim) ?_
  intro ls e0 hf hargs hrng hpre
  simp only [pcAroundR, ArgsE, ArgE] at hargs
  obtain ⟨a, _, rfl, ⟨ha, hl⟩, b, _, rfl, hb, c, _, rfl, hc, d, _, rfl, hd, rfl⟩ := hargs
  obtain ⟨cx, cy, rfl⟩ := len2 hl
  obtain ⟨n, hn⟩ : ∃ n, vInt (e0.val 1) = n := ⟨_, rfl⟩
  obtain ⟨w, hw⟩ : ∃ n, vInt (e0.val 2) = n := ⟨_, rfl⟩
  obtain ⟨h, hh⟩ : ∃ n, vInt (e0.val 3) = n := ⟨_, rfl⟩
  simp only [Nat.zero_add, Nat.reduceAdd, hn, hw, hh] at hb hc hd
  subst hb; subst hc; subst hd
  refine ⟨fun _ _ => ⟨trivial, trivial⟩, ?_⟩
  have hz := @withinC_zero cx cy cx cy w h
  have hE := aroundE_within cx cy n w h
  simp only [allLeaves, AsOk_cons, AsOk_nil, BE.eval, cmpI, IE.eval, IE.reval, IE.aeval, ha, hn, hw, hh, hf, sel2, and_true, decide_eq_true_eq, decide_eq_false_iff_not, StepG, pcAroundR, FN, List.headD_cons, binI]
  repeat' apply And.intro
  all_goals intro hA
  all_goals refine ⟨[_, _], rfl, ⟨_, rfl, rfl, ?_⟩, ⟨_, rfl, ?_⟩, rfl⟩
  all_goals simp only [FN, IE.eval, IE.reval, IE.aeval, hf, List.headD_cons, binI, ha, hn, hw, hh, sel2]
  · rw [aroundL, if_neg (by rw [hE, if_pos hA.2, if_neg (by omega)]; omega)]
  · rw [hE, if_pos hA.2, if_neg (by omega)]
  · rw [aroundL, if_neg (by rw [hE, if_pos hA.2.2, if_neg (by omega)]; omega)]
  · rw [hE, if_pos hA.2.2, if_neg (by omega)]
  · have hb := hz.1 hA.2.2
    simp (disch := omega) only [wrap_i64]
    rw [aroundL, if_pos (by rw [hE, if_pos hA.2.2, if_pos (by omega)]), clip_lo (by omega), clip_lo (by omega), clip_hi (by omega), clip_hi (by omega), meetL, if_pos (by unfold meetsP rightP; omega)]
    simp only [sel4, List.cons.injEq, and_true]
    refine ⟨?_, ?_, ?_, ?_⟩ <;> omega
  · rw [hE, if_pos hA.2.2, if_pos (by omega)]
  · rw [aroundL, if_neg (by rw [hE, if_neg hA]; exact hA)]
  · rw [hE, if_neg hA]

theorem aroundL_sel (cx cy n w h : Int) : ∃ p q r s, aroundL cx cy n w h = [p, q, r, s] := by
  unfold aroundL; split <;> exact ⟨_, _, _, _, rfl⟩

theorem knAround_ok : ∀ env : Env, env.fn = FN → KnOk Try.prog env knAround := fun env h =>
  knOk_cons (knOk_cons (knOk_cons (knOk_cons (knOk_cons knOk_nil (Pc.ct_ok h within_ok)) (Pc.ct_ok h has_ok)) (Pc.ct_ok h aroundR_ok)) (Pc.ct_ok h aroundP_ok)) (ctTrue_ok mix awake_saysA)

theorem around_law {w : World} {vs : Array Value} {ls : List (List Int)} (hargs : ArgsAre w vs.toList [.agg C2, .int .i64, .int .i64, .int .i64, .agg C2] ls) : Calls Try.prog 5 vs w fun e w' => e = .returned (.bool true) ∧ RowKit.Below w.heap.size w w' := by
  refine law_floyd (cs := []) (FN := FN) mix (fun _ => True) knAround_ok (by decide) (by rfl) around_entry (fun _ _ _ => False) (fun _ _ _ => (0, 0)) (fun _ _ _ h => h.elim) ?_ hargs trivial
  intro ls e0 hf hargs _
  simp only [ArgsE, ArgE] at hargs
  obtain ⟨a, _, rfl, ⟨ha, hl⟩, b, _, rfl, hb, c, _, rfl, hc, d, _, rfl, hd, e, _, rfl, ⟨he, hle⟩, rfl⟩ := hargs
  obtain ⟨cx, cy, rfl⟩ := len2 hl
  obtain ⟨dx, dy, rfl⟩ := len2 hle
  obtain ⟨n, hn⟩ : ∃ n, vInt (e0.val 1) = n := ⟨_, rfl⟩
  obtain ⟨w, hw⟩ : ∃ n, vInt (e0.val 2) = n := ⟨_, rfl⟩
  obtain ⟨h, hh⟩ : ∃ n, vInt (e0.val 3) = n := ⟨_, rfl⟩
  simp only [Nat.zero_add, Nat.reduceAdd, hn, hw, hh] at hb hc hd he
  subst hb; subst hc; subst hd
  refine ⟨fun _ _ => ⟨trivial, trivial⟩, ?_⟩
  obtain ⟨p, q, r, s, hm⟩ := aroundL_sel cx cy n w h
  simp only [allLeaves, AsOk_cons, AsOk_nil, BE.eval, cmpI, IE.eval, IE.reval, IE.aeval, ha, hn, hw, hh, he, hf, sel4, sel2, and_true, decide_eq_true_eq, decide_eq_false_iff_not, StepL, FN, encB_zero, hm, List.headD_cons, binI]
  by_cases hE : aroundE cx cy n w h = 0
  · have hb := aroundE_zero.1 hE
    rw [aroundL, if_pos hE] at hm
    simp only [List.cons.injEq, and_true] at hm
    have hW : withinC p q r s w h = 0 := withinC_zero.2 (by omega)
    have hH : hasP p q r s dx dy ↔ (p ≤ dx ∧ dx ≤ r ∧ q ≤ dy ∧ dy ≤ s) := by unfold hasP rightP; omega
    simp only [hE, hW, hH]
    by_cases hd : 0 ≤ dx ∧ dx < w ∧ 0 ≤ dy ∧ dy < h
    · simp (disch := omega) only [wrap_i64]
      repeat' apply And.intro
      all_goals first | (intro; trivial) | (intro hA; first | trivial | omega | (exfalso; omega))
    · repeat' apply And.intro
      all_goals first | (intro; trivial) | (intro hA; first | trivial | omega | (exfalso; omega))
  · simp [hE]

theorem vals4 (a b c d : Int) : vals R4 [a, b, c, d] = [.int .i64 a, .int .i64 b, .int .i64 c, .int .i64 d] := by simp [vals, kindAt]

theorem vals2 (a b : Int) : vals C2 [a, b] = [.int .i64 a, .int .i64 b] := by simp [vals, kindAt]

end Go.Proofs.Ytagahpfinaaemaa
