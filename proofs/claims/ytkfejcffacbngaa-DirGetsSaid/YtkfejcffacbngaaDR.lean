import Derived.Test.YtkfejcffacbngaaDQ

namespace Go.Proofs.Ytkfejcffacbngaa

open Go Go.Sym

set_option linter.unusedVariables false

theorem tilesR_h : PcOk Try.prog FNh pcTilesR := h_ok (f_ok (e_ok (d_ok tilesR_ok (by decide) (by decide)) (by decide) (by decide)) (by decide) (by decide)) (by decide) (by decide)

theorem knGetR : ∀ env : Env, env.fn = FNh → KnOk Try.prog env [pcTilesR.ct, pcGotR.ct] := fun env h => knOk_cons (knOk_cons knOk_nil (Pc.ct_ok h gotR_ok)) (Pc.ct_ok h tilesR_h)

theorem FNh_50 (w h : Int) : FNh 50 [[w], [h]] = [tilesI w h] := rfl
theorem FNh_51 (w h : Int) : FNh 51 [[w], [h]] = [szC w h] := rfl
theorem FNh_70 (b : List Int) : FNh 70 [b] = [if getC b = 0 then wOf b else 0] := rfl
theorem FNh_71 (b : List Int) : FNh 71 [b] = [if getC b = 0 then hOf b else 0] := rfl
theorem FNh_72 (b : List Int) : FNh 72 [b] = if getC b = 0 then (entsOf b).getD [] else [] := rfl
theorem FNh_73 (b : List Int) : FNh 73 [b] = [getC b] := rfl

theorem encB_one (b : Bool) : ((encB b).headD 0 = 1) ↔ b = true := by cases b <;> simp [encB]

theorem magic_eq (b : List Int) : w8L (subL b 0 5 1) = [72, 65, 67, 72, 1] ↔ isMagic b := by
  unfold isMagic
  have : subL (w8L (subL b 0 13 1)) 0 5 1 = w8L (subL b 0 5 1) := by simp [subL, w8L, ← List.map_take, List.take_take]
  rw [this]

def invGetR (ls : List (List Int)) (c : Nat) (env : Env) : Prop := ∃ b, ls = [b] ∧ (b.length : Int) ≤ 4294967296 ∧ bytesOk b ∧ headOk b ∧ env.row 0 = b ∧ vInt (env.val 1) = wOf b ∧ vInt (env.val 2) = hOf b ∧ ∃ (T n : Nat) (a : Int) (R : List Int),
  (T : Int) = tilesI (wOf b) (hOf b) ∧ vInt (env.val 7) = T ∧ vInt (env.val 8) = n ∧ n ≤ T ∧ vInt (env.val 4) = a ∧ (0 ≤ a ∧ a ≤ 32781 + 1048576 * n) ∧
  R.length = 2 * n ∧ entsOf b = (getE b (T - n) n a).map (fun r => R ++ r) ∧ ((c = 0 ∧ R = []) ∨ (c = 1 ∧ env.row 3 = R ∧ vInt (env.val 5) = n))

theorem getR_ok : PcOk Try.prog FNh pcGetR := by
  refine pc_floyd_as (cs := cutGetR) (aa := asR) (base := 1) mix pcGetR knGetR (Nat.le_refl 1) getR_rounds getR_entry invGetR (fun ls _ env => (0, (5000 - vInt (env.val 8)).toNat)) (fun ls i env h => by obtain ⟨_, _, _, _, _, _, _, _, _, _, _, _, _, _, _, _, _, _, _, _, h⟩ := h; simp; omega) ?_
  intro ls e0 hf hargs hrng hpre
  simp only [pcGetR, ArgsE, ArgE] at hargs
  obtain ⟨b, _, rfl, ⟨hb, _⟩, rfl⟩ := hargs
  have hlen := (hrng.1 (.sl [.u8]) b rfl rfl).2
  simp only [measL, List.length_singleton, Nat.div_one] at hlen
  have hby : bytesOk b := by
    have := hpre.1
    simp only [FNh_77, encB_headD] at this
    split at this
    · rename_i hq; exact of_decide_eq_true hq
    · omega
  have ret : ∀ (env : Env) (code : Int) (o : Option (Nat × Nat)) (M : Mem) (s : SV), getC b = code → code ≠ 0 → (∃ e, toIE s = some (.i64, e) ∧ e.eval env = code) → StepG FNh [b] pcGetR.id pcGetR.rks (invGetR [b]) (fun _ env => (0, (5000 - vInt (env.val 8)).toNat)) o env (.ret (.tuple [.int .i64 0, .int .i64 0, .nilslice, s]) M) := by
    intro env code o M s h1 h2 h3
    obtain ⟨e, h3, h4⟩ := h3
    refine ⟨[_, _, _, _], rfl, ⟨_, rfl, ?_⟩, ⟨_, rfl, ?_⟩, ⟨by decide, _, rfl, ?_, trivial⟩, ⟨e, h3, ?_⟩, rfl⟩
    · simp only [IE.eval, pcGetR, FNh_70, h1, if_neg h2, List.headD_cons]
    · simp only [IE.eval, pcGetR, Nat.reduceAdd, FNh_71, h1, if_neg h2, List.headD_cons]
    · simp only [IE.reval, pcGetR, Nat.reduceAdd, FNh_72, h1, if_neg h2]
    · simp only [pcGetR, Nat.reduceAdd, FNh_73, h1, List.headD_cons, h4]
  have asg : ∀ (env : Env), env.fn = FNh → env.row 0 = b → (0 ≤ vInt (env.val 8)) → AsOk env asGR := by
    intro env hfn q0 q8
    simp only [asGR, is78, aB, asB, nonneg, atmB, List.cons_append, List.nil_append, AsOk_cons, AsOk_nil, BE.eval, cmpI, IE.eval, IE.reval, IE.aeval, hfn, q0, FNh_78, encB_one, Nat.div_one]
    simp [hby]
    exact ⟨decide_eq_false (by omega), by omega⟩
  -- a round
  have key : ∀ (env : Env), env.fn = FNh → ∀ (T n : Nat) (a : Int) (R : List Int), headOk b → env.row 0 = b → (T : Int) = tilesI (wOf b) (hOf b) → vInt (env.val 8) = n → n < T → vInt (env.val 4) = a → (0 ≤ a ∧ a ≤ 32781 + 1048576 * n) → R.length = 2 * n → entsOf b = (getE b (T - n) n a).map (fun r => R ++ r) →
      ∃ A L, nU b (13 + 8 * (n : Int)) 4 = A ∧ nU b (17 + 8 * (n : Int)) 4 = L ∧ (¬ (A = a ∧ 1 ≤ L ∧ L ≤ 1048576) → getC b = 13) ∧ ((A = a ∧ 1 ≤ L ∧ L ≤ 1048576) → entsOf b = (getE b (T - (n + 1)) (n + 1) (a + L)).map (fun r => (R ++ [A, L]) ++ r)) := by
    intro env hfn T n a R hh q0 hT q8 hi q4 h4 h5 h6
    obtain ⟨m, hm⟩ : ∃ m, T - n = m + 1 := ⟨T - n - 1, by omega⟩
    refine ⟨_, _, rfl, rfl, fun h => ?_, fun h => ?_⟩
    · rw [hm, getE, if_neg h] at h6
      rw [getC_of hh, h6]; rfl
    · rw [hm, getE, if_pos h] at h6
      rw [show T - (n + 1) = m by omega, h6, Option.map_map]
      congr 1
      funext r
      simp only [Function.comp, List.append_assoc, List.cons_append, List.nil_append]
  have nums : ∀ n : Nat, n ≤ 4096 → binI .add .i64 13 (binI .mul .i64 8 (n : Int)) = 13 + 8 * n ∧ binI .add .i64 17 (binI .mul .i64 8 (n : Int)) = 17 + 8 * n ∧ binI .add .i64 (n : Int) 1 = ((n + 1 : Nat) : Int) := by
    intro n hn
    have e8 : binI .mul .i64 8 (n : Int) = 8 * n := wrap_i64 (by omega)
    rw [e8]
    exact ⟨wrap_i64 (by omega), wrap_i64 (by omega), by simp only [binI]; rw [wrap_i64 (by omega)]; omega⟩
  refine ⟨?_, fun env hfn => ⟨⟨?_, ?_, trivial⟩, ⟨?_, ?_, trivial⟩⟩, ?_⟩
  · simp only [asR, is78, aB, asB, atmB, List.cons_append, List.nil_append, AsOk_cons, AsOk_nil, BE.eval, cmpI, IE.eval, IE.reval, IE.aeval, hf, hb, FNh_78, encB_one, Nat.div_one]
    simp [hby]; omega
  · rintro ⟨b', hl, hbl, hby', hh, q0, q1, q2, T, n, a, R, hT, q7, q8, h3, q4, h4, h5, h6, hq⟩
    simp only [List.cons.injEq, and_true] at hl
    subst hl
    exact asg env hfn q0 (by omega)
  · rintro ⟨b', hl, hbl, hby', hh, q0, q1, q2, T, n, a, R, hT, q7, q8, h3, q4, h4, h5, h6, hq | ⟨_, q3, q5⟩⟩
    · omega
    · simp only [List.cons.injEq, and_true] at hl
      subst hl
      have htl := tilesI_bd hh.2.2.1
      have := asg env hfn q0 (by omega)
      rw [AsOk_cons, AsOk_cons]
      refine ⟨?_, ?_, this⟩
      · simp only [nonneg, BE.eval, cmpI, IE.eval, q5]; simp
      · simp only [atmB, BE.eval, cmpI, IE.eval, q5]; simp; omega
  · rintro ⟨b', hl, hbl, hby', hh, q0, q1, q2, T, n, a, R, hT, q7, q8, h3, q4, h4, h5, h6, ⟨_, hR⟩ | hq⟩
    · simp only [List.cons.injEq, and_true] at hl
      subst hl
      subst hR
      obtain rfl : n = 0 := by simp at h5; omega
      have htl := tilesI_bd hh.2.2.1
      have hi : 0 < T := by omega
      have hi' : ((0 : Nat) : Int) < (T : Int) := by omega
      obtain ⟨A, L, hA, hL, k1, k2⟩ := key env hfn T 0 a [] hh q0 hT q8 hi q4 h4 h5 h6
      obtain ⟨e13, e17, e1⟩ := nums 0 (by omega)
      simp only [allLeaves, AsOk_cons, AsOk_nil, BE.eval, cmpI, IE.eval, IE.reval, IE.aeval, hfn, q0, q4, q7, q8, Nat.div_one, FNh_64, FNh_78, List.headD_cons, e13, e17, nU_eq, hA, hL, hi', and_true, decide_eq_true_eq, decide_eq_false_iff_not, not_true_eq_false, false_and, false_imp_iff, true_and]
      refine ⟨fun hq => ret env 13 _ _ _ (k1 (by omega)) (by decide) ⟨_, rfl, by simp only [IE.eval]⟩, fun hq => ret env 13 _ _ _ (k1 (by omega)) (by decide) ⟨_, rfl, by simp only [IE.eval]⟩, fun hq => ?_, fun hq => ret env 13 _ _ _ (k1 (by omega)) (by decide) ⟨_, rfl, by simp only [IE.eval]⟩⟩
      have e2 : binI .add .i64 a L = a + L := wrap_i64 (by omega)
      refine stepG_cut ⟨b, rfl, hbl, hby, hh, ?_, ?_, ?_, T, 1, a + L, [A, L], hT, ?_, ?_, by omega, ?_, by omega, rfl, by have := k2 (by omega); simpa using this, .inr ⟨rfl, ?_, ?_⟩⟩ (Prod.lex_def.2 (.inr ⟨rfl, ?_⟩))
      · simp [upd, lk_cons, lk_nil, q0]
      · simp [upd, lk_cons, lk_nil, IE.eval, q1, vInt_int]
      · simp [upd, lk_cons, lk_nil, IE.eval, q2, vInt_int]
      · simp [upd, lk_cons, lk_nil, IE.eval, q7, vInt_int]
      · simp only [upd, lk_cons, lk_nil, Nat.reduceEqDiff, if_false, if_true, IE.eval, q8, e1, vInt_int]
      · simp only [upd, lk_cons, lk_nil, Nat.reduceEqDiff, if_false, if_true, IE.eval, IE.reval, IE.aeval, hfn, q0, q4, q8, FNh_64, List.headD_cons, e17, nU_eq, hL, e2, vInt_int]
      · simp only [upd, lk_cons, lk_nil, if_true, IE.eval, IE.reval, IE.aeval, hfn, q0, q8, FNh_64, List.headD_cons, e13, e17, nU_eq, hA, hL]
      · simp [upd, lk_cons, lk_nil, IE.eval, vInt_int]
      · simp only [upd, lk_cons, lk_nil, Nat.reduceEqDiff, if_false, if_true, IE.eval, q8, e1, vInt_int]
        exact dec5000 (m := T) hi (by omega)
    · omega
  · rintro ⟨b', hl, hbl, hby', hh, q0, q1, q2, T, n, a, R, hT, q7, q8, h3, q4, h4, h5, h6, hq | ⟨_, q3, q5⟩⟩
    · omega
    · simp only [List.cons.injEq, and_true] at hl
      subst hl
      have htl := tilesI_bd hh.2.2.1
      by_cases hi : n < T
      · have hi' : (n : Int) < (T : Int) := by omega
        obtain ⟨A, L, hA, hL, k1, k2⟩ := key env hfn T n a R hh q0 hT q8 hi q4 h4 h5 h6
        obtain ⟨e13, e17, e1⟩ := nums n (by omega)
        simp only [allLeaves, AsOk_cons, AsOk_nil, BE.eval, cmpI, IE.eval, IE.reval, IE.aeval, hfn, q0, q4, q5, q7, q8, Nat.div_one, FNh_64, FNh_78, List.headD_cons, e13, e17, nU_eq, hA, hL, hi', and_true, decide_eq_true_eq, decide_eq_false_iff_not, not_true_eq_false, false_and, false_imp_iff, true_and]
        refine ⟨fun hq => ret env 13 _ _ _ (k1 (by omega)) (by decide) ⟨_, rfl, by simp only [IE.eval]⟩, fun hq => ret env 13 _ _ _ (k1 (by omega)) (by decide) ⟨_, rfl, by simp only [IE.eval]⟩, fun hq => ?_, fun hq => ret env 13 _ _ _ (k1 (by omega)) (by decide) ⟨_, rfl, by simp only [IE.eval]⟩⟩
        have e2 : binI .add .i64 a L = a + L := wrap_i64 (by omega)
        refine stepG_cut ⟨b, rfl, hbl, hby, hh, ?_, ?_, ?_, T, n + 1, a + L, R ++ [A, L], hT, ?_, ?_, by omega, ?_, by omega, by simp; omega, k2 (by omega), .inr ⟨rfl, ?_, ?_⟩⟩ (Prod.lex_def.2 (.inr ⟨rfl, ?_⟩))
        · simp [upd, lk_cons, lk_nil, q0]
        · simp [upd, lk_cons, lk_nil, IE.eval, q1, vInt_int]
        · simp [upd, lk_cons, lk_nil, IE.eval, q2, vInt_int]
        · simp [upd, lk_cons, lk_nil, IE.eval, q7, vInt_int]
        · simp only [upd, lk_cons, lk_nil, Nat.reduceEqDiff, if_false, if_true, IE.eval, q8, e1, vInt_int]
        · simp only [upd, lk_cons, lk_nil, Nat.reduceEqDiff, if_false, if_true, IE.eval, IE.reval, IE.aeval, hfn, q0, q4, q8, FNh_64, List.headD_cons, e17, nU_eq, hL, e2, vInt_int]
        · simp only [upd, lk_cons, lk_nil, if_true, IE.eval, IE.reval, IE.aeval, hfn, q0, q3, q8, FNh_64, List.headD_cons, e13, e17, nU_eq, hA, hL]
        · simp [upd, lk_cons, lk_nil, IE.eval, q5, vInt_int]
        · simp only [upd, lk_cons, lk_nil, Nat.reduceEqDiff, if_false, if_true, IE.eval, q8, e1, vInt_int]
          exact dec5000 (m := T) hi (by omega)
      · have hi' : ¬ ((n : Int) < (T : Int)) := by omega
        obtain rfl : n = T := by omega
        rw [Nat.sub_self, getE] at h6
        simp only [Option.map_some, List.append_nil] at h6
        have hg0 : getC b = 0 := by rw [getC_of hh, h6]; rfl
        simp only [allLeaves, AsOk_cons, AsOk_nil, BE.eval, cmpI, IE.eval, IE.reval, q0, q5, q7, q8, Nat.div_one, hi', and_true, decide_eq_true_eq, decide_eq_false_iff_not, not_false_eq_true, false_and, and_false, false_imp_iff, true_and]
        refine fun hq => ⟨[_, _, _, _], rfl, ⟨_, rfl, ?_⟩, ⟨_, rfl, ?_⟩, ⟨by decide, _, rfl, ?_, ?_⟩, ⟨_, rfl, ?_⟩, rfl⟩
        · simp only [IE.eval, pcGetR, FNh_70, hg0, if_true, List.headD_cons, q1]
        · simp only [IE.eval, pcGetR, Nat.reduceAdd, FNh_71, hg0, if_true, List.headD_cons, q2]
        · rw [subE_eval (by simp only [IE.reval, IE.eval, q3, q5]; simp; omega)]; simp only [IE.reval, IE.eval, q3, q5, subL, pcGetR, Nat.reduceAdd, FNh_72, hg0, if_true, h6, Option.getD_some]
          have : (n : Int).toNat * C2.length = R.length := by simp; omega
          rw [this, List.take_of_length_le (Nat.le_refl _)]; simp
        · refine ⟨by simp only [IE.eval, q5]; omega, fun B r cnt ks' g1 g2 => ?_⟩
          obtain rfl := Option.some.inj g1
          cases g2
          simp only [IE.eval, q5]; omega
        · simp only [IE.eval, pcGetR, Nat.reduceAdd, FNh_73, hg0, List.headD_cons]
  · simp only [allLeaves, AsOk_cons, AsOk_nil, BE.eval, cmpI, IE.eval, IE.reval, IE.aeval, hb, hf, Nat.div_one, FNh_50, FNh_51, FNh_64, FNh_78, List.headD_cons, nU_eq, wOf_eq, hOf_eq, szC_zero, magic_eq, and_true, decide_eq_true_eq, decide_eq_false_iff_not]
    have tl : szOk (wOf b) (hOf b) → binI .add .i64 13 (binI .mul .i64 8 (tilesI (wOf b) (hOf b))) = 13 + 8 * tilesI (wOf b) (hOf b) ∧ 1 ≤ tilesI (wOf b) (hOf b) ∧ tilesI (wOf b) (hOf b) ≤ 4096 := fun h => by
      have := tilesI_bd h
      have e : binI .mul .i64 8 (tilesI (wOf b) (hOf b)) = 8 * tilesI (wOf b) (hOf b) := wrap_i64 (by omega)
      rw [e]
      exact ⟨wrap_i64 (by omega), this⟩
    refine ⟨fun hq => ?_, fun hq => ?_, fun hq => ?_, fun hq => ?_, fun hq => ?_, fun hq => ?_⟩
    · exact ret e0 14 _ _ _ (by rw [getC, if_pos (by omega)]) (by decide) ⟨_, rfl, by simp only [IE.eval]⟩
    · obtain ⟨p1, p2, p3, p4, p6, _⟩ := hq
      obtain ⟨e, _⟩ := tl p3
      rw [e] at p1
      exact ret e0 14 _ _ _ (by rw [getC, if_neg (by omega), if_pos p4, if_pos p3, if_pos p2, if_pos p1]) (by decide) ⟨_, rfl, by simp only [IE.eval]⟩
    · obtain ⟨p1, p2, p3, p4, p6, _⟩ := hq
      obtain ⟨e, t1, t2⟩ := tl p3
      rw [e] at p1
      have hh : headOk b := ⟨by omega, p4, p3, p2, by omega⟩
      obtain ⟨T, hT⟩ : ∃ T : Nat, (T : Int) = tilesI (wOf b) (hOf b) := ⟨(tilesI (wOf b) (hOf b)).toNat, by omega⟩
      refine stepG_cut0 ⟨b, rfl, by omega, hby, hh, ?_, ?_, ?_, T, 0, 13 + 8 * tilesI (wOf b) (hOf b), [], hT, ?_, ?_, by omega, ?_, by omega, rfl, ?_, .inl ⟨rfl, rfl⟩⟩
      · simp [upd, lk_cons, lk_nil, hb]
      · simp only [upd, lk_cons, lk_nil, Nat.reduceEqDiff, if_false, if_true, IE.eval, IE.reval, IE.aeval, hf, hb, FNh_64, List.headD_cons, nU_eq, wOf_eq, vInt_int]
      · simp only [upd, lk_cons, lk_nil, Nat.reduceEqDiff, if_false, if_true, IE.eval, IE.reval, IE.aeval, hf, hb, FNh_64, List.headD_cons, nU_eq, hOf_eq, vInt_int]
      · simp only [upd, lk_cons, lk_nil, Nat.reduceEqDiff, if_false, if_true, IE.eval, IE.reval, IE.aeval, hf, hb, FNh_64, FNh_50, List.headD_cons, nU_eq, wOf_eq, hOf_eq, hT, vInt_int]
      · simp only [upd, lk_cons, lk_nil, Nat.reduceEqDiff, if_false, if_true, IE.eval, vInt_int]; rfl
      · simp only [upd, lk_cons, lk_nil, Nat.reduceEqDiff, if_false, if_true, IE.eval, IE.reval, IE.aeval, hf, hb, FNh_64, FNh_50, List.headD_cons, nU_eq, wOf_eq, hOf_eq, e, vInt_int]
      · have : (tilesI (wOf b) (hOf b)).toNat = T := by omega
        rw [entsOf, this]; simp
    · obtain ⟨p2, p3, p4, p6, _⟩ := hq
      exact ret e0 6 _ _ _ (by rw [getC, if_neg (by omega), if_pos p4, if_pos p3, if_neg p2]) (by decide) ⟨_, rfl, by simp only [IE.eval]⟩
    · obtain ⟨p3, p4, p6, _⟩ := hq
      exact ret e0 3 _ _ _ (by rw [getC, if_neg (by omega), if_pos p4, if_neg p3]) (by decide) ⟨_, rfl, by simp only [IE.eval, IE.reval, IE.aeval, hf, hb, FNh_64, FNh_51, List.headD_cons, nU_eq, wOf_eq, hOf_eq, szC, if_neg p3]⟩
    · obtain ⟨p4, p6, _⟩ := hq
      exact ret e0 13 _ _ _ (by rw [getC, if_neg (by omega), if_neg p4]) (by decide) ⟨_, rfl, by simp only [IE.eval]⟩

end Go.Proofs.Ytkfejcffacbngaa
