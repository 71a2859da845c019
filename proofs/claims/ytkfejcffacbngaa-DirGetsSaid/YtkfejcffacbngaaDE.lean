import Derived.Test.YtkfejcffacbngaaDD

namespace Go.Proofs.Ytkfejcffacbngaa

open Go Go.Sym

set_option linter.unusedVariables false

theorem putR_ok : PcOk Try.prog FNd pcPutR := by
  refine pc_floyd (cs := cutPutR) mix pcPutR knTilesRD (by decide) putR_rounds putR_entry invPut (fun ls _ env => (0, (5000 - vInt (env.val 5)).toNat)) (fun ls i env h => by have := h.1; simp; omega) ?_
  intro ls e0 hf hargs hrng hpre
  simp only [pcPutR, ArgsE, ArgE] at hargs
  obtain ⟨a, _, rfl, ha, b, _, rfl, hb, lens, _, rfl, ⟨hc, _⟩, rfl⟩ := hargs
  obtain ⟨w, hw⟩ : ∃ n, vInt (e0.val 0) = n := ⟨_, rfl⟩
  obtain ⟨h, hh⟩ : ∃ n, vInt (e0.val 1) = n := ⟨_, rfl⟩
  simp only [Nat.zero_add, Nat.reduceAdd, hw, hh] at ha hb hc
  subst ha; subst hb
  have ret : ∀ (env : Env) (code : Int) (o : Option (Nat × Nat)) (s : SV), putC w h lens = code → code ≠ 0 → (∃ e, toIE s = some (.i64, e) ∧ e.eval env = code) → StepG FNd [[w], [h], lens] pcPutR.id pcPutR.rks (invPut [[w], [h], lens]) (fun _ env => (0, (5000 - vInt (env.val 5)).toNat)) o env (.ret (.tuple [.nilslice, s]) ⟨0, .nil⟩) := by
    intro env code o s h1 h2 h3
    obtain ⟨e, h3, h4⟩ := h3
    refine ⟨[_, _], rfl, ⟨by decide, _, rfl, ?_, trivial⟩, ⟨e, h3, ?_⟩, rfl⟩
    · simp only [IE.reval, pcPutR, FNd_54, putL, h1, if_neg h2]
    · simp only [pcPutR, Nat.reduceAdd, FNd_55, List.headD_cons, h1, h4]
  refine ⟨fun env hfn => ⟨⟨?_, trivial⟩, ⟨?_, trivial⟩⟩, ?_⟩
  · rintro ⟨_, w', h', lens', hl, hs, hlen, hrow, n, k, q5, q6, hn, hok, hk, hk2, hat, htot⟩
    have := tilesI_bd hs
    simp only [asO, nonneg, atmB, AsOk_cons, AsOk_nil, BE.eval, cmpI, IE.eval, q5, q6]
    simp; omega
  · rintro ⟨_, w', h', lens', hl, hs, hlen, hrow, n, k, q5, q6, hn, hok, hk, hk2, hat, htot⟩
    simp only [List.cons.injEq, and_true] at hl
    obtain ⟨rfl, rfl, rfl⟩ := hl
    have htl := tilesI_bd hs
    obtain ⟨at', hat'⟩ : ∃ z, vInt (env.val 4) = z := ⟨_, rfl⟩
    rw [hat'] at hat htot
    obtain ⟨R, hR⟩ : ∃ R, env.row 3 = R := ⟨_, rfl⟩
    rw [hR] at hk2 htot
    by_cases hi : n < lens.length
    · have hi' : (n : Int) < ((lens.length : Nat) : Int) := by omega
      have hx := sel1 hi
      have hm := sel1_mem hi
      obtain ⟨x, hxx⟩ : ∃ x, selL lens (n : Int) 1 0 = x := ⟨_, rfl⟩
      rw [hxx] at hx hm
      obtain ⟨a1, a2, a3, a4⟩ := rem8 (v := at') (by omega)
      simp only [allLeaves, AsOk_cons, AsOk_nil, BE.eval, cmpI, IE.eval, IE.reval, q5, q6, hat', hrow, hxx, Nat.div_one, hi', and_true, decide_eq_true_eq, decide_eq_false_iff_not, not_true_eq_false, false_and, and_false, false_imp_iff, true_and]
      by_cases hxo : lenOk x
      · have hxo' := hxo
        unfold lenOk at hxo'
        obtain ⟨b1, b2, b3, b4⟩ := rem8 (v := x) (by omega)
        have z3 : ¬ x < 1 := by omega
        have z4 : ¬ 1048576 < x := by omega
        simp only [z3, z4, not_true_eq_false, not_false_eq_true, false_and, and_false, false_imp_iff, true_and, true_imp_iff]
        have e1 : binI .add .i64 (n : Int) 1 = ((n + 1 : Nat) : Int) := by simp only [binI]; rw [wrap_i64 (by omega)]; omega
        have e2 : binI .add .i64 at' x = at' + x := wrap_i64 (by omega)
        have tot : R ++ (u32L at' ++ u32L x) ++ entL (at' + x) (lens.drop (n + 1)) = headL w h ++ entL (13 + 8 * tilesI w h) lens := by
          rw [← htot, hx, entL]; simp
        refine fun _ => stepG_cut ⟨rfl, w, h, lens, rfl, hs, hlen, ?_, n + 1, k + 8, ?_, ?_, by omega, take_ok hi hok (by rw [hxx]; exact hxo), by omega, ?_, ?_, ?_⟩ (Prod.lex_def.2 ?_)
        · simp [upd, lk_cons, lk_nil, IE.reval, hrow]
        · simp [upd, lk_cons, lk_nil, IE.eval, q5, e1, vInt_int]
        · simp [upd, lk_cons, lk_nil, IE.eval, q6, vInt_int]
        · simp [upd, lk_cons, lk_nil, IE.reval, hR, hk2]
        · simp [upd, lk_cons, lk_nil, IE.eval, IE.reval, hat', hrow, hxx, q5, e2, vInt_int]; omega
        · simp only [upd, lk_cons, lk_nil, Nat.reduceEqDiff, if_false, if_true, IE.eval, IE.reval, q5, hat', hrow, hxx, hR, e2, a1, a2, a3, a4, b1, b2, b3, b4, vInt_int]
          rw [← tot]; simp [u32L]
        · right
          refine ⟨rfl, ?_⟩
          simp only [upd, lk_cons, lk_nil, Nat.reduceEqDiff, if_false, if_true, IE.eval, q5, e1, vInt_int]
          exact dec5000 hi (by omega)
      · have hxo' := hxo
        unfold lenOk at hxo'
        have hbad := putC_bad hs hlen hm hxo
        refine ⟨fun hA => ret env 7 _ _ hbad (by decide) ⟨_, rfl, by simp only [IE.eval]⟩, fun hA => ret env 7 _ _ hbad (by decide) ⟨_, rfl, by simp only [IE.eval]⟩, fun hA => ?_⟩
        exfalso; omega
    · have hi' : ¬ ((n : Int) < ((lens.length : Nat) : Int)) := by omega
      obtain rfl : n = lens.length := by omega
      rw [List.take_of_length_le (Nat.le_refl _)] at hok
      rw [List.drop_eq_nil_of_le (Nat.le_refl _), entL, List.append_nil] at htot
      have hgood := putC_good hs hlen hok
      simp only [allLeaves, AsOk_cons, AsOk_nil, BE.eval, cmpI, IE.eval, IE.reval, q5, q6, hat', hrow, Nat.div_one, hi', and_true, decide_eq_true_eq, decide_eq_false_iff_not, not_true_eq_false, not_false_eq_true, false_and, and_false, false_imp_iff, true_and]
      refine fun hA => ⟨[_, _], rfl, ⟨by decide, _, rfl, ?_, ?_⟩, ⟨_, rfl, ?_⟩, rfl⟩
      · rw [subE_eval (by simp only [IE.reval, IE.eval, hR, q6]; simp; omega)]; simp only [IE.reval, IE.eval, hR, q6, subL, pcPutR, FNd_54, putL, if_pos hgood]
        have e : (k : Int).toNat * [IntKind.u8].length = R.length := by simp; omega
        rw [e, List.take_of_length_le (Nat.le_refl _), htot]; simp
      · refine ⟨by simp only [IE.eval, q6]; omega, fun B r cnt ks' h1 h2 => ?_⟩
        obtain rfl := Option.some.inj h1
        cases h2
        exact Int.le_refl _
      · simp only [pcPutR, Nat.reduceAdd, FNd_55, List.headD_cons, hgood, IE.eval]
  · by_cases hs : szOk w h
    · have hs' := hs
      unfold szOk at hs'
      have htl := tilesI_bd hs
      have c0 : szC w h = 0 := szC_zero.2 hs
      have e1 : binI .sub .i64 w 1 = w - 1 := wrap_i64 (by omega)
      have e2 : binI .sub .i64 h 1 = h - 1 := wrap_i64 (by omega)
      have e3 : binI .mul .i64 8 (tilesI w h) = 8 * tilesI w h := wrap_i64 (by omega)
      have e4 : binI .add .i64 13 (8 * tilesI w h) = 13 + 8 * tilesI w h := wrap_i64 (by omega)
      obtain ⟨a1, a2, _, _⟩ := rem8 (v := w - 1) (by omega)
      obtain ⟨b1, b2, _, _⟩ := rem8 (v := h - 1) (by omega)
      obtain ⟨t1, t2, t3, t4⟩ := rem8 (v := tilesI w h) (by omega)
      simp only [allLeaves, AsOk_cons, AsOk_nil, BE.eval, cmpI, IE.eval, IE.reval, IE.aeval, hw, hh, hc, hf, FNd_50, FNd_51, List.headD_cons, c0, e1, e2, e3, e4, Nat.div_one, and_true, true_and, decide_eq_true_eq, decide_eq_false_iff_not, not_true_eq_false, not_false_eq_true, false_and, and_false, false_imp_iff]
      refine ⟨fun hA => stepG_cut0 ⟨rfl, w, h, lens, rfl, hs, hA, ?_, 0, 13, ?_, ?_, by omega, by simp, by omega, ?_, ?_, ?_⟩, fun hA => ?_⟩
      · simp [upd, lk_cons, lk_nil, hc]
      · simp [upd, lk_cons, lk_nil, IE.eval, vInt_int]
      · simp [upd, lk_cons, lk_nil, IE.eval, vInt_int]
      · simp [upd, lk_cons, lk_nil, IE.reval]
      · simp [upd, lk_cons, lk_nil, IE.eval, IE.reval, IE.aeval, hf, hw, hh, FNd_50, e3, e4, vInt_int]; omega
      · simp [upd, lk_cons, lk_nil, IE.eval, IE.reval, IE.aeval, hf, hw, hh, FNd_50, e1, e2, e3, e4, a1, a2, b1, b2, t1, t2, t3, t4, vInt_int, headL, u16L, u32L]
      · exact ret e0 6 _ _ (by rw [putC, if_pos hs, if_neg hA]) (by decide) ⟨_, rfl, by simp only [IE.eval]⟩
    · have c0 : szC w h = 3 := by rw [szC, if_neg hs]
      have c1 : ¬ ((3 : Int) = 0) := by omega
      simp only [allLeaves, AsOk_cons, AsOk_nil, BE.eval, cmpI, IE.eval, IE.reval, IE.aeval, hw, hh, hc, hf, FNd_50, FNd_51, List.headD_cons, c0, c1, and_true, true_and, decide_eq_true_eq, decide_eq_false_iff_not, not_true_eq_false, not_false_eq_true, false_and, and_false, false_imp_iff, true_imp_iff]
      exact ret e0 3 _ _ (by rw [putC, if_neg hs]) (by decide) ⟨_, rfl, by simp only [IE.eval, IE.reval, IE.aeval, hf, hw, hh, FNd_51, List.headD_cons, c0]⟩

end Go.Proofs.Ytkfejcffacbngaa
