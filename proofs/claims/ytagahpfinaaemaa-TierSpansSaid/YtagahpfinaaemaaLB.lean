import Derived.Test.YtagahpfinaaemaaLA

namespace Go.Proofs.Ytagahpfinaaemaa

open Go Go.Sym

set_option linter.unusedVariables false

theorem withinR_ok : PcOk Try.prog FN pcWithinR := by
  refine pc_floyd (cs := []) mix pcWithinR (fun _ _ => knOk_nil) (by decide) (by rfl) withinR_entry (fun _ _ _ => False) (fun _ _ _ => (0, 0)) (fun _ _ _ h => h.elim) ?_
  intro ls e0 hf hargs hrng hpre
  simp only [pcWithinR, ArgsE, ArgE] at hargs
  obtain ⟨a, _, rfl, ⟨ha, hl⟩, b, _, rfl, hb, c, _, rfl, hc, rfl⟩ := hargs
  obtain ⟨x0, y0, x1, y1, rfl⟩ := len4 hl
  obtain ⟨w, hw⟩ : ∃ n, vInt (e0.val 1) = n := ⟨_, rfl⟩
  obtain ⟨h, hh⟩ : ∃ n, vInt (e0.val 2) = n := ⟨_, rfl⟩
  simp only [Nat.zero_add, Nat.reduceAdd, hw, hh] at hb hc
  subst hb; subst hc
  refine ⟨fun _ _ => ⟨trivial, trivial⟩, ?_⟩
  simp only [allLeaves, AsOk_cons, AsOk_nil, BE.eval, cmpI, IE.eval, IE.reval, IE.aeval, ha, hw, hh, hf, sel4, and_true, decide_eq_true_eq, decide_eq_false_iff_not, StepG, pcWithinR]
  repeat' apply And.intro
  all_goals intro hA
  all_goals refine ⟨[_], rfl, ⟨_, rfl, ?_⟩, rfl⟩
  all_goals simp only [FN, g20, IE.eval, List.headD_cons, withinC]
  all_goals first
    | (rw [if_neg (by omega)])
    | (rw [if_pos (by omega), if_neg (by omega)])
    | (rw [if_pos (by omega), if_pos (by omega), if_pos (by omega)])
    | (rw [if_pos (by omega), if_pos (by omega), if_neg (by omega)])

theorem hasR_ok : PcOk Try.prog FN pcHasR := by
  refine pc_floyd (cs := []) mix pcHasR knRightR (by decide) (by rfl) hasR_entry (fun _ _ _ => False) (fun _ _ _ => (0, 0)) (fun _ _ _ h => h.elim) ?_
  intro ls e0 hf hargs hrng hpre
  simp only [pcHasR, ArgsE, ArgE] at hargs
  obtain ⟨a, _, rfl, ⟨ha, hl⟩, b, _, rfl, ⟨hb, hlb⟩, rfl⟩ := hargs
  obtain ⟨x0, y0, x1, y1, rfl⟩ := len4 hl
  obtain ⟨x, y, rfl⟩ := len2 hlb
  refine ⟨fun _ _ => ⟨trivial, trivial⟩, ?_⟩
  have hw : withinC x0 y0 x1 y1 1024 1024 = 0 ↔ rightP x0 y0 x1 y1 := by
    unfold withinC rightP
    rw [if_pos (by omega)]
    by_cases q1 : 0 ≤ x0 ∧ x0 < 1024 ∧ 0 ≤ x1 ∧ x1 < 1024 ∧ 0 ≤ y0 ∧ y0 < 1024 ∧ 0 ≤ y1 ∧ y1 < 1024
    · rw [if_pos q1]
      by_cases q2 : x1 < x0 ∨ y1 < y0
      · rw [if_pos q2]; omega
      · rw [if_neg q2]; omega
    · rw [if_neg q1]; omega
  simp only [allLeaves, AsOk_cons, AsOk_nil, BE.eval, cmpI, IE.eval, IE.reval, IE.aeval, ha, hb, hf, sel4, sel2, and_true, decide_eq_true_eq, decide_eq_false_iff_not, StepG, pcHasR, FN, g41, encB_zero]
  repeat' apply And.intro
  all_goals intro hA
  all_goals refine ⟨[_], rfl, ?_, rfl⟩
  all_goals simp only [FN, g40, encB_head, BE.eval, cmpI, IE.eval, IE.reval, ha, hb, sel4, sel2, hw]
  all_goals clear hw
  all_goals unfold rightP at hA
  all_goals first | (refine (decide_eq_false ?_).symm; unfold rightP; omega) | (refine (decide_eq_true ?_).symm; unfold rightP; omega) | (refine decide_eq_decide.2 ?_; unfold rightP; omega) | (rw [← decide_not]; refine decide_eq_decide.2 ?_; unfold rightP; omega)

def invSz (ls : List (List Int)) (i : Nat) (env : Env) : Prop := ∃ w h, ls = [[w], [h]] ∧ szOk w h ∧ ∃ (f : Nat) (w' h' : Int) (pre : List Int), vInt (env.val 2) = w' ∧ vInt (env.val 3) = h' ∧
  f ≤ 10 ∧ 1 ≤ w' ∧ 1 ≤ h' ∧ w' ≤ 1024 ∧ h' ≤ 1024 ∧ w' ≤ ((2 ^ f : Nat) : Int) ∧ h' ≤ ((2 ^ f : Nat) : Int) ∧ szL 10 w h = pre ++ szL f w' h' ∧
  ((i = 0 ∧ pre = [] ∧ vInt (env.val 4) = w' ∧ vInt (env.val 5) = h') ∨ (i = 1 ∧ env.row 4 = pre ++ [w', h'] ∧ ∃ c : Nat, vInt (env.val 5) = c ∧ 2 * c = pre.length + 2))

theorem szL_len10 (w h : Int) : (szL 10 w h).length ≤ 22 := by
  have := szL_len 10 w h
  have := lv_le 10 w h
  omega

theorem szL_two (f : Nat) (w h : Int) : 2 ≤ (szL f w h).length := by
  cases f <;> simp [szL]

theorem sizes_ok : PcOk Try.prog FN pcSizes := by
  refine pc_floyd (cs := cutsSz) mix pcSizes (fun _ _ => knOk_nil) (by decide) sizes_rounds sizes_entry invSz (fun ls _ env => (0, (vInt (env.val 2) + vInt (env.val 3)).toNat)) (fun ls i env h => by obtain ⟨_, _, _, _, _, _, _, _, _, _, _, _, _, _, _, _, _, _, h⟩ := h; simp; omega) ?_
  intro ls e0 hf hargs hrng hpre
  simp only [pcSizes, II, ArgsE, ArgE] at hargs
  obtain ⟨a, _, rfl, ha, b, _, rfl, hb, rfl⟩ := hargs
  obtain ⟨w, hw⟩ : ∃ n, vInt (e0.val 0) = n := ⟨_, rfl⟩
  obtain ⟨h, hh⟩ : ∃ n, vInt (e0.val 1) = n := ⟨_, rfl⟩
  simp only [Nat.zero_add, Nat.reduceAdd, hw, hh] at ha hb
  subst ha; subst hb
  have step : ∀ (env : Env) (f : Nat) (w' h' : Int) (pre : List Int) (σ : Sb), szOk w h → f ≤ 10 → 1 ≤ w' → 1 ≤ h' → w' ≤ 1024 → h' ≤ 1024 → w' ≤ ((2 ^ f : Nat) : Int) → h' ≤ ((2 ^ f : Nat) : Int) → szL 10 w h = pre ++ szL f w' h' → (1 < w' ∨ 1 < h') →
      vInt ((upd env σ).val 2) = hv w' → vInt ((upd env σ).val 3) = hv h' → (upd env σ).row 4 = (pre ++ [w', h']) ++ [hv w', hv h'] → (∃ c : Nat, vInt ((upd env σ).val 5) = c ∧ 2 * c = pre.length + 4) →
      StepG FN [[w], [h]] pcSizes.id pcSizes.rks (invSz [[w], [h]]) (fun _ env => (0, (vInt (env.val 2) + vInt (env.val 3)).toNat)) (some (0, (w' + h').toNat)) env (.cut 1 σ) := by
    intro env f w' h' pre σ hok q4 q5 q6 q7 q8 q9 q10 q11 hc s2 s3 s4 s5
    have hz : f = 0 → w' ≤ 1 ∧ h' ≤ 1 := by rintro rfl; exact ⟨q9, q10⟩
    obtain ⟨g, rfl⟩ : ∃ g, f = g + 1 := ⟨f - 1, by have := hz; omega⟩
    have p1 := hv_pos q5
    have p2 := hv_pos q6
    have p3 := hv_le q5
    have p4 := hv_le q6
    obtain ⟨c, c1, c2⟩ := s5
    refine stepG_cut ⟨w, h, rfl, hok, g, hv w', hv h', pre ++ [w', h'], s2, s3, by omega, p1, p2, by omega, by omega, hv_pow q9, hv_pow q10, ?_, .inr ⟨rfl, s4, c, c1, by simp; omega⟩⟩ (Prod.lex_def.2 (.inr ⟨rfl, ?_⟩))
    · rw [q11, szL, if_pos hc]; simp
    · show (vInt ((upd env σ).val 2) + vInt ((upd env σ).val 3)).toNat < _
      rw [s2, s3]
      rcases hc with hc | hc
      · have := hv_lt hc; omega
      · have := hv_lt hc; omega
  have stop : ∀ (f : Nat) (w' h' : Int), ¬ (1 < w' ∨ 1 < h') → szL f w' h' = [w', h'] := by
    intro f w' h' hc
    cases f with
    | zero => rfl
    | succ f => rw [szL, if_neg hc]
  refine ⟨fun env hfn => ⟨⟨fun _ => by simp only [AsOk_nil], ?_, trivial⟩, ⟨?_, ?_, trivial⟩⟩, ?_⟩
  · rintro ⟨w0, h0, hl, hok, f, w', h', pre, q2, q3, q4, q5, q6, q7, q8, q9, q10, q11, hq | ⟨_, q12, c, q13, q14⟩⟩
    · omega
    · have h1 := szL_len10 w0 h0
      have h2 := szL_two f w' h'
      rw [q11, List.length_append] at h1
      simp only [nonneg, atmB, AsOk_cons, AsOk_nil, BE.eval, cmpI, IE.eval, q13]
      simp; omega
  · rintro ⟨w0, h0, hl, hok, f, w', h', pre, q2, q3, q4, q5, q6, q7, q8, q9, q10, q11, ⟨_, rfl, q12, q13⟩ | hq⟩
    · simp only [List.cons.injEq, and_true] at hl
      obtain ⟨rfl, rfl⟩ := hl
      have e1 : IntKind.i64.wrap (w' + 1) = w' + 1 := wrap_i64 (by omega)
      have e2 : IntKind.i64.wrap (h' + 1) = h' + 1 := wrap_i64 (by omega)
      have e3 : IntKind.i64.wrap (hv w') = hv w' := wrap_i64 (by unfold hv; omega)
      have e4 : IntKind.i64.wrap (hv h') = hv h' := wrap_i64 (by unfold hv; omega)
      simp only [allLeaves, AsOk_cons, AsOk_nil, BE.eval, cmpI, IE.eval, IE.reval, q2, q3, q12, q13, and_true, decide_eq_true_eq, decide_eq_false_iff_not]
      refine ⟨fun hA => step env f w' h' [] _ hok q4 q5 q6 q7 q8 q9 q10 q11 (by omega) ?_ ?_ ?_ ⟨2, ?_, rfl⟩, fun hA => step env f w' h' [] _ hok q4 q5 q6 q7 q8 q9 q10 q11 (by omega) ?_ ?_ ?_ ⟨2, ?_, rfl⟩, fun hA => ?_⟩
      rotate_right
      · have e := stop f w' h' (by omega)
        refine ⟨[_], rfl, ⟨by decide, _, rfl, ?_, ?_⟩, rfl⟩
        · rw [subE_eval (by simp [IE.eval, IE.reval])]; simp [IE.reval, IE.eval, subL, pcSizes, FN, g34, if_pos hok, q11, q12, q13, e]
        · refine ⟨by simp [IE.eval], fun B r cnt ks' h1 h2 => ?_⟩
          obtain rfl := Option.some.inj h1
          cases h2
          exact Int.le_refl _
      all_goals simp [upd, lk_cons, lk_nil, IE.eval, IE.reval, binI, q2, q3, q12, q13, e1, e2, hv_tdiv q5, hv_tdiv q6, e3, e4, vInt_int]
    · omega
  · rintro ⟨w0, h0, hl, hok, f, w', h', pre, q2, q3, q4, q5, q6, q7, q8, q9, q10, q11, hq | ⟨_, q12, c, q13, q14⟩⟩
    · omega
    · simp only [List.cons.injEq, and_true] at hl
      obtain ⟨rfl, rfl⟩ := hl
      have e1 : IntKind.i64.wrap (w' + 1) = w' + 1 := wrap_i64 (by omega)
      have e2 : IntKind.i64.wrap (h' + 1) = h' + 1 := wrap_i64 (by omega)
      have e3 : IntKind.i64.wrap (hv w') = hv w' := wrap_i64 (by unfold hv; omega)
      have e4 : IntKind.i64.wrap (hv h') = hv h' := wrap_i64 (by unfold hv; omega)
      simp only [allLeaves, AsOk_cons, AsOk_nil, BE.eval, cmpI, IE.eval, IE.reval, q2, q3, q12, q13, and_true, decide_eq_true_eq, decide_eq_false_iff_not]
      refine ⟨fun hA => step env f w' h' pre _ hok q4 q5 q6 q7 q8 q9 q10 q11 (by omega) ?_ ?_ ?_ ⟨c + 1, ?_, by omega⟩, fun hA => step env f w' h' pre _ hok q4 q5 q6 q7 q8 q9 q10 q11 (by omega) ?_ ?_ ?_ ⟨c + 1, ?_, by omega⟩, fun hA => ?_⟩
      rotate_right
      · have e := stop f w' h' (by omega)
        refine ⟨[_], rfl, ⟨by decide, _, rfl, ?_, ?_⟩, rfl⟩
        · rw [subE_eval (by simp only [IE.reval, IE.eval, q12, q13]; simp; omega)]; simp only [IE.reval, IE.eval, q12, q13, subL, pcSizes, FN, g34, if_pos hok, q11, e]
          have : (c : Int).toNat * C2.length = (pre ++ [w', h']).length := by simp; omega
          rw [this, List.take_of_length_le (Nat.le_refl _)]; simp
        · refine ⟨by simp only [IE.eval, q13]; omega, fun B r cnt ks' h1 h2 => ?_⟩
          obtain rfl := Option.some.inj h1
          cases h2
          exact Int.le_refl _
      all_goals simp [upd, lk_cons, lk_nil, IE.eval, IE.reval, binI, q2, q3, q12, q13, e1, e2, hv_tdiv q5, hv_tdiv q6, e3, e4, vInt_int]
  · simp only [allLeaves, AsOk_cons, AsOk_nil, BE.eval, cmpI, IE.eval, IE.reval, IE.aeval, hw, hh, hf, and_true, decide_eq_true_eq, decide_eq_false_iff_not]
    have nope : ¬ szOk w h → StepG FN [[w], [h]] pcSizes.id pcSizes.rks (invSz [[w], [h]]) (fun _ env => (0, (vInt (env.val 2) + vInt (env.val 3)).toNat)) none e0 (.ret .nilslice ⟨0, .nil⟩) := by
      intro hn
      exact ⟨[_], rfl, ⟨by decide, _, rfl, by simp only [IE.reval, pcSizes, FN, g34, if_neg hn], trivial⟩, rfl⟩
    refine ⟨fun hA => nope (by unfold szOk; omega), fun hA => nope (by unfold szOk; omega), fun hA => nope (by unfold szOk; omega), fun hA => nope (by unfold szOk; omega), fun hA => ?_⟩
    have hok : szOk w h := by unfold szOk; omega
    refine stepG_cut0 ⟨w, h, rfl, hok, 10, w, h, [], ?_, ?_, by omega, by omega, by omega, by omega, by omega, ?_, ?_, rfl, .inl ⟨rfl, rfl, ?_, ?_⟩⟩
    · simp [upd, lk_cons, lk_nil, IE.eval, hw, vInt_int]
    · simp [upd, lk_cons, lk_nil, IE.eval, hh, vInt_int]
    · show w ≤ 1024; omega
    · show h ≤ 1024; omega
    · simp [upd, lk_cons, lk_nil, IE.eval, hw, vInt_int]
    · simp [upd, lk_cons, lk_nil, IE.eval, hh, vInt_int]

theorem chunk2_at {l : List Int} {i : Nat} (h : 2 * (i + 1) ≤ l.length) : l.drop (2 * i) = selL l (i : Int) 2 0 :: selL l (i : Int) 2 1 :: l.drop (2 * (i + 1)) := by
  have g : ∀ f : Nat, selL l (i : Int) 2 f = l[2 * i + f]?.getD 0 := by
    intro f
    simp only [selL, Int.toNat_natCast, Nat.mul_comm i 2]
  have e : ∀ k, k < l.length → l.drop k = l[k]?.getD 0 :: l.drop (k + 1) := by
    intro k hk
    rw [List.drop_eq_getElem_cons hk, List.getElem?_eq_getElem hk]; rfl
  rw [g 0, g 1, e (2 * i) (by omega), e (2 * i + 1) (by omega)]
  rfl

def invS (ls : List (List Int)) (c : Nat) (env : Env) : Prop := c = 0 ∧ ∃ a b, ls = [a, b] ∧ env.row 0 = a ∧ env.row 1 = b ∧ a.length = b.length ∧ a.length ≤ 4194304 ∧ a.length % 2 = 0 ∧ ∃ n : Nat, vInt (env.val 2) = n ∧ 2 * n ≤ a.length ∧ a.take (2 * n) = b.take (2 * n)

theorem sameC_ok : PcOk Try.prog FN pcSameC := by
  refine pc_floyd (cs := [cutSameC]) mix pcSameC (fun _ _ => knOk_nil) (by decide) sameC_rounds sameC_entry
    invS (fun ls _ env => (0, 4194304 - (vInt (env.val 2)).toNat)) (fun ls i env h => by have := h.1; simp; omega) ?_
  intro ls e0 hf hargs hrng hpre
  simp only [pcSameC, ArgsE, ArgE] at hargs
  obtain ⟨a, _, rfl, ⟨ha0, hla⟩, b, _, rfl, ⟨hb0, hlb⟩, rfl⟩ := hargs
  have ha := (hrng.1 (.sl C2) a rfl rfl).2
  simp only [measL] at ha
  have hr4 : C2.length = 2 := rfl
  rw [hr4] at ha hla hlb
  refine ⟨fun env hfn => ⟨⟨?_, trivial⟩, ⟨?_, trivial⟩⟩, ?_⟩
  · rintro ⟨_, a, b, hl, h0, h1, h2, h6, h7, n, h3, h4, h5⟩
    simp only [AsOk_cons, AsOk_nil, nonneg, BE.eval, cmpI, IE.eval, IE.reval, h0, h1, h3, h2]
    simp
  · rintro ⟨_, a', b', hl, h0, h1, h2, h6, h7, n, h3, h4, h5⟩
    simp only [List.cons.injEq, and_true] at hl
    obtain ⟨rfl, rfl⟩ := hl
    simp only [allLeaves, AsOk_cons, AsOk_nil, BE.eval, cmpI, IE.eval, IE.reval, h0, h1, h3, and_true, decide_eq_true_eq, decide_eq_false_iff_not, Bool.not_eq_true']
    refine ⟨?_, ?_, ?_⟩
    · rintro ⟨e1, e2, e3, e4⟩
      have ca := chunk2_at (l := a) (i := n) (by omega)
      have cb := chunk2_at (l := b) (i := n) (by omega)
      simp only [List.cons.injEq, and_true] at e1
      obtain ⟨f0, f1⟩ := e1
      have e : a.take (2 * (n + 1)) = b.take (2 * (n + 1)) := by
        rw [show 2 * (n + 1) = 2 * n + 2 by omega, List.take_add, List.take_add, h5, ca, cb, f0, f1]; rfl
      refine stepG_cut ⟨rfl, a, b, rfl, ?_, ?_, h2, h6, h7, n + 1, ?_, by omega, e⟩ (Prod.lex_def.2 ?_)
      all_goals simp (disch := omega) [upd, lk_cons, lk_nil, IE.eval, IE.reval, binI, h0, h1, h3, vInt_int, wrap_i64]
      omega
    · rintro ⟨e1, e2, e3, e4⟩
      refine ⟨[_], rfl, ?_, rfl⟩
      have : ¬ a = b := by rintro rfl; exact e1 rfl
      simp only [FN, g37, pcSameC, this, decide_false]; rfl
    · rintro ⟨e1, e2, e3⟩
      refine ⟨[_], rfl, ?_, rfl⟩
      rw [List.take_of_length_le (by omega), List.take_of_length_le (by omega)] at h5
      simp only [FN, g37, pcSameC, h5, decide_true]; rfl
  · simp only [allLeaves, AsOk_cons, AsOk_nil, BE.eval, cmpI, IE.eval, IE.reval, IE.aeval, ha0, hb0, and_true, decide_eq_true_eq, decide_eq_false_iff_not]
    refine ⟨fun hA => stepG_cut0 ⟨rfl, a, b, rfl, ?_, ?_, by omega, by omega, hla, 0, ?_, by omega, rfl⟩, fun hA => ⟨[_], rfl, ?_, rfl⟩⟩
    · simp [upd, lk_cons, lk_nil, ha0]
    · simp [upd, lk_cons, lk_nil, hb0]
    · simp [upd, lk_cons, lk_nil, IE.eval, vInt_int]
    · have : ¬ a = b := by rintro rfl; exact hA rfl
      simp only [FN, g37, pcSameC, this, decide_false]; rfl

end Go.Proofs.Ytagahpfinaaemaa
