import Derived.Test.YtkfejcffacbngaaDC

namespace Go.Proofs.Ytkfejcffacbngaa

open Go Go.Sym

set_option linter.unusedVariables false

theorem d_ok {c : Pc} (h : PcOk Try.prog FN c) (h1 : c.id + c.rks.length ≤ 54) (h2 : ∀ i ∈ c.pre, i < 54) : PcOk Try.prog FNd c := by
  have key : ∀ i, i < 54 → FNd i = FN i := by
    intro i hi
    funext l
    unfold FNd
    split
    · omega
    · omega
    · rfl
  exact h.cong (fun i hi => key _ (by omega)) (fun i hi => key _ (h2 i hi))

theorem knTilesD : ∀ env : Env, env.fn = FNd → KnOk Try.prog env [pcTiles.ct] := fun env h => knOk_cons knOk_nil (Pc.ct_ok h (d_ok tiles_ok (by decide) (by decide)))

theorem knTilesRD : ∀ env : Env, env.fn = FNd → KnOk Try.prog env [pcTilesR.ct] := fun env h => knOk_cons knOk_nil (Pc.ct_ok h (d_ok tilesR_ok (by decide) (by decide)))

theorem FNd_50 (w h : Int) : FNd 50 [[w], [h]] = [tilesI w h] := rfl
theorem FNd_51 (w h : Int) : FNd 51 [[w], [h]] = [szC w h] := rfl
theorem FNd_54 (w h : Int) (l : List Int) : FNd 54 [[w], [h], l] = putL w h l := rfl
theorem FNd_55 (w h : Int) (l : List Int) : FNd 55 [[w], [h], l] = [putC w h l] := rfl

theorem wrap_u8 (z : Int) : IntKind.u8.wrap z = z % 256 := by simp [IntKind.wrap, IntKind.bits, IntKind.signed]

theorem shr8 {v : Int} (h : 0 ≤ v ∧ v ≤ 1099511627776) : IntKind.u8.wrap (binI .shr .u64 (IntKind.u64.wrap v) 0) = v % 256 ∧ IntKind.u8.wrap (binI .shr .u64 (IntKind.u64.wrap v) 8) = v / 256 % 256 ∧
    IntKind.u8.wrap (binI .shr .u64 (IntKind.u64.wrap v) 16) = v / 65536 % 256 ∧ IntKind.u8.wrap (binI .shr .u64 (IntKind.u64.wrap v) 24) = v / 16777216 % 256 ∧ binI .shr .u64 (IntKind.u64.wrap v) 32 = v / 4294967296 ∧ binI .shr .u64 (IntKind.u64.wrap v) 16 = v / 65536 := by
  rw [wrap_u64 (by omega)]
  have f : ∀ k : Nat, k < 64 → binI .shr .u64 v (k : Int) = v / 2 ^ k := by
    intro k hk
    have e : min (k : Int).toNat (IntKind.u64).bits = k := by simp [IntKind.bits]; omega
    simp only [binI, e]
    exact Int.fdiv_eq_ediv_of_nonneg _ (Int.le_of_lt (Int.pow_pos (by omega)))
  have f0 := f 0 (by omega)
  have f8 := f 8 (by omega)
  have f16 := f 16 (by omega)
  have f24 := f 24 (by omega)
  have f32 := f 32 (by omega)
  simp only [wrap_u8]
  refine ⟨?_, ?_, ?_, ?_, ?_, ?_⟩
  · rw [show (0 : Int) = ((0 : Nat) : Int) from rfl, f0]; simp
  · rw [show (8 : Int) = ((8 : Nat) : Int) from rfl, f8]; rfl
  · rw [show (16 : Int) = ((16 : Nat) : Int) from rfl, f16]; rfl
  · rw [show (24 : Int) = ((24 : Nat) : Int) from rfl, f24]; rfl
  · rw [show (32 : Int) = ((32 : Nat) : Int) from rfl, f32]; rfl
  · rw [show (16 : Int) = ((16 : Nat) : Int) from rfl, f16]; rfl

theorem rem8 {v : Int} (h : 0 ≤ v ∧ v ≤ 1099511627776) : IntKind.u8.wrap (binI .rem .u64 (IntKind.u64.wrap v) 256) = v % 256 ∧ IntKind.u8.wrap (binI .rem .u64 (binI .quo .u64 (IntKind.u64.wrap v) 256) 256) = v / 256 % 256 ∧
    IntKind.u8.wrap (binI .rem .u64 (binI .quo .u64 (binI .quo .u64 (IntKind.u64.wrap v) 256) 256) 256) = v / 65536 % 256 ∧ IntKind.u8.wrap (binI .rem .u64 (binI .quo .u64 (binI .quo .u64 (binI .quo .u64 (IntKind.u64.wrap v) 256) 256) 256) 256) = v / 16777216 % 256 := by
  rw [wrap_u64 (by omega)]
  have q : ∀ z : Int, 0 ≤ z ∧ z ≤ 1099511627776 → binI .quo .u64 z 256 = z / 256 := by
    intro z hz
    simp only [binI, Int.tdiv_eq_ediv_of_nonneg hz.1]
    exact wrap_u64 (by omega)
  have r : ∀ z : Int, 0 ≤ z → binI .rem .u64 z 256 = z % 256 := by
    intro z hz
    simp only [binI, Int.tmod_eq_emod_of_nonneg hz]
  rw [q v h, q (v / 256) (by omega), q (v / 256 / 256) (by omega), r _ h.1, r _ (by omega), r _ (by omega), r _ (by omega)]
  simp only [wrap_u8]
  omega

theorem sel1 {l : List Int} {n : Nat} (h : n < l.length) : l.drop n = selL l (n : Int) 1 0 :: l.drop (n + 1) := by
  rw [List.drop_eq_getElem_cons h]
  simp [selL, h]

theorem sel1_mem {l : List Int} {n : Nat} (h : n < l.length) : selL l (n : Int) 1 0 ∈ l := by
  simp [selL, h]

theorem u32_len (v : Int) : (u32L v).length = 4 := rfl
theorem head_len (w h : Int) : (headL w h).length = 13 := rfl

def invPut (ls : List (List Int)) (c : Nat) (env : Env) : Prop := c = 0 ∧ ∃ w h lens, ls = [[w], [h], lens] ∧ szOk w h ∧ (lens.length : Int) = tilesI w h ∧ env.row 2 = lens ∧ ∃ n k : Nat, vInt (env.val 5) = n ∧ vInt (env.val 6) = k ∧ n ≤ lens.length ∧
  (∀ l ∈ lens.take n, lenOk l) ∧ k = 13 + 8 * n ∧ (env.row 3).length = k ∧ (13 ≤ vInt (env.val 4) ∧ vInt (env.val 4) ≤ 32781 + 1048576 * n) ∧ env.row 3 ++ entL (vInt (env.val 4)) (lens.drop n) = headL w h ++ entL (13 + 8 * tilesI w h) lens

theorem take_ok {lens : List Int} {n : Nat} (h : n < lens.length) (h1 : ∀ l ∈ lens.take n, lenOk l) (h2 : lenOk (selL lens (n : Int) 1 0)) : ∀ l ∈ lens.take (n + 1), lenOk l := by
  intro l hl
  rw [List.take_succ_eq_append_getElem h] at hl
  rcases List.mem_append.1 hl with hl | hl
  · exact h1 l hl
  · simp at hl; subst hl
    have : selL lens (n : Int) 1 0 = lens[n] := by simp [selL, h]
    rwa [this] at h2

theorem putC_bad {w h : Int} {lens : List Int} (hs : szOk w h) (hl : (lens.length : Int) = tilesI w h) {x : Int} (hx : x ∈ lens) (hn : ¬ lenOk x) : putC w h lens = 7 := by
  rw [putC, if_pos hs, if_pos hl, if_neg (fun h => hn (h x hx))]

theorem putC_good {w h : Int} {lens : List Int} (hs : szOk w h) (hl : (lens.length : Int) = tilesI w h) (hx : ∀ l ∈ lens, lenOk l) : putC w h lens = 0 := by
  rw [putC, if_pos hs, if_pos hl, if_pos hx]

theorem dec5000 {n m : Nat} (h : n < m) (hm : m ≤ 4096) : (5000 - ((n + 1 : Nat) : Int)).toNat < (5000 - (n : Int)).toNat := by omega

theorem put_ok : PcOk Try.prog FNd pcPut := by
  refine pc_floyd (cs := cutPut) mix pcPut knTilesD (by decide) put_rounds put_entry invPut (fun ls _ env => (0, (5000 - vInt (env.val 5)).toNat)) (fun ls i env h => by have := h.1; simp; omega) ?_
  intro ls e0 hf hargs hrng hpre
  simp only [pcPut, ArgsE, ArgE] at hargs
  obtain ⟨a, _, rfl, ha, b, _, rfl, hb, lens, _, rfl, ⟨hc, _⟩, rfl⟩ := hargs
  obtain ⟨w, hw⟩ : ∃ n, vInt (e0.val 0) = n := ⟨_, rfl⟩
  obtain ⟨h, hh⟩ : ∃ n, vInt (e0.val 1) = n := ⟨_, rfl⟩
  simp only [Nat.zero_add, Nat.reduceAdd, hw, hh] at ha hb hc
  subst ha; subst hb
  have ret : ∀ (env : Env) (code : Int) (o : Option (Nat × Nat)) (s : SV), putC w h lens = code → code ≠ 0 → (∃ e, toIE s = some (.i64, e) ∧ e.eval env = code) → StepG FNd [[w], [h], lens] pcPut.id pcPut.rks (invPut [[w], [h], lens]) (fun _ env => (0, (5000 - vInt (env.val 5)).toNat)) o env (.ret (.tuple [.nilslice, s]) ⟨0, .nil⟩) := by
    intro env code o s h1 h2 h3
    obtain ⟨e, h3, h4⟩ := h3
    refine ⟨[_, _], rfl, ⟨by decide, _, rfl, ?_, trivial⟩, ⟨e, h3, ?_⟩, rfl⟩
    · simp only [IE.reval, pcPut, FNd_54, putL, h1, if_neg h2]
    · simp only [pcPut, Nat.reduceAdd, FNd_55, List.headD_cons, h1, h4]
  refine ⟨fun env hfn => ⟨⟨?_, trivial⟩, ⟨?_, trivial⟩⟩, ?_⟩
  · rintro ⟨_, w', h', lens', hl, hs, hlen, hrow, n, k, q5, q6, hn, hok, hk, hk2, hat, htot⟩
    have := tilesI_bd hs
    simp only [asO, nonneg, atmB, AsOk_cons, AsOk_nil, BE.eval, cmpI, IE.eval, q5, q6]
    simp; omega
  · rintro ⟨_, w', h', lens', hl, hs, hlen, hrow, n, k, q5, q6, hn, hok, hk, hk2, hat, htot⟩
    simp only [List.cons.injEq, and_true] at hl
    obtain ⟨rfl, rfl, rfl⟩ := hl
    have htl := tilesI_bd hs
    obtain ⟨at', hat'⟩ : ∃ z, vInt (env.val 4) = z := ⟨_, rfl⟩
    rw [hat'] at hat htot
    obtain ⟨R, hR⟩ : ∃ R, env.row 3 = R := ⟨_, rfl⟩
    rw [hR] at hk2 htot
    by_cases hi : n < lens.length
    · have hi' : (n : Int) < ((lens.length : Nat) : Int) := by omega
      have hx := sel1 hi
      have hm := sel1_mem hi
      obtain ⟨x, hxx⟩ : ∃ x, selL lens (n : Int) 1 0 = x := ⟨_, rfl⟩
      rw [hxx] at hx hm
      obtain ⟨a1, a2, a3, a4, a5, _⟩ := shr8 (v := at') (by omega)
      simp only [allLeaves, AsOk_cons, AsOk_nil, BE.eval, cmpI, IE.eval, IE.reval, q5, q6, hat', hrow, hxx, Nat.div_one, hi', a5, and_true, decide_eq_true_eq, decide_eq_false_iff_not, not_true_eq_false, false_and, and_false, false_imp_iff, true_and]
      by_cases hxo : lenOk x
      · have hxo' := hxo
        unfold lenOk at hxo'
        obtain ⟨b1, b2, b3, b4, b5, _⟩ := shr8 (v := x) (by omega)
        have z1 : at' / 4294967296 = 0 := by omega
        have z2 : x / 4294967296 = 0 := by omega
        have z3 : ¬ x < 1 := by omega
        have z4 : ¬ 1048576 < x := by omega
        simp only [b5, z1, z2, z3, z4, not_true_eq_false, not_false_eq_true, false_and, and_false, false_imp_iff, true_and, true_imp_iff]
        have e1 : binI .add .i64 (n : Int) 1 = ((n + 1 : Nat) : Int) := by simp only [binI]; rw [wrap_i64 (by omega)]; omega
        have e2 : binI .add .i64 at' x = at' + x := wrap_i64 (by omega)
        have tot : R ++ (u32L at' ++ u32L x) ++ entL (at' + x) (lens.drop (n + 1)) = headL w h ++ entL (13 + 8 * tilesI w h) lens := by
          rw [← htot, hx, entL]; simp
        refine ⟨fun _ => stepG_cut ⟨rfl, w, h, lens, rfl, hs, hlen, ?_, n + 1, k + 8, ?_, ?_, by omega, take_ok hi hok (by rw [hxx]; exact hxo), by omega, ?_, ?_, ?_⟩ (Prod.lex_def.2 ?_), trivial⟩
        · simp [upd, lk_cons, lk_nil, IE.reval, hrow]
        · simp [upd, lk_cons, lk_nil, IE.eval, q5, e1, vInt_int]
        · simp [upd, lk_cons, lk_nil, IE.eval, q6, vInt_int]
        · simp [upd, lk_cons, lk_nil, IE.reval, hR, hk2]
        · simp [upd, lk_cons, lk_nil, IE.eval, IE.reval, hat', hrow, hxx, q5, e2, vInt_int]; omega
        · simp only [upd, lk_cons, lk_nil, Nat.reduceEqDiff, if_false, if_true, IE.eval, IE.reval, q5, hat', hrow, hxx, hR, e2, a1, a2, a3, a4, b1, b2, b3, b4, vInt_int]
          rw [← tot]; simp [u32L]
        · right
          refine ⟨rfl, ?_⟩
          simp only [upd, lk_cons, lk_nil, Nat.reduceEqDiff, if_false, if_true, IE.eval, q5, e1, vInt_int]
          exact dec5000 hi (by omega)
      · have hxo' := hxo
        unfold lenOk at hxo'
        have hbad := putC_bad hs hlen hm hxo
        refine ⟨fun hA => ret env 7 _ _ hbad (by decide) ⟨_, rfl, by simp only [IE.eval]⟩, fun hA => ret env 7 _ _ hbad (by decide) ⟨_, rfl, by simp only [IE.eval]⟩, fun hA => ?_, fun hA => ?_, fun hA => ?_, fun hA => ?_⟩
        all_goals (exfalso; omega)
    · have hi' : ¬ ((n : Int) < ((lens.length : Nat) : Int)) := by omega
      obtain rfl : n = lens.length := by omega
      rw [List.take_of_length_le (Nat.le_refl _)] at hok
      rw [List.drop_eq_nil_of_le (Nat.le_refl _), entL, List.append_nil] at htot
      have hgood := putC_good hs hlen hok
      simp only [allLeaves, AsOk_cons, AsOk_nil, BE.eval, cmpI, IE.eval, IE.reval, q5, q6, hat', hrow, Nat.div_one, hi', and_true, decide_eq_true_eq, decide_eq_false_iff_not, not_true_eq_false, not_false_eq_true, false_and, and_false, false_imp_iff, true_and]
      refine fun hA => ⟨[_, _], rfl, ⟨by decide, _, rfl, ?_, ?_⟩, ⟨_, rfl, ?_⟩, rfl⟩
      · rw [subE_eval (by simp only [IE.reval, IE.eval, hR, q6]; simp; omega)]; simp only [IE.reval, IE.eval, hR, q6, subL, pcPut, FNd_54, putL, if_pos hgood]
        have e : (k : Int).toNat * [IntKind.u8].length = R.length := by simp; omega
        rw [e, List.take_of_length_le (Nat.le_refl _), htot]; simp
      · refine ⟨by simp only [IE.eval, q6]; omega, fun B r cnt ks' h1 h2 => ?_⟩
        obtain rfl := Option.some.inj h1
        cases h2
        exact Int.le_refl _
      · simp only [pcPut, Nat.reduceAdd, FNd_55, List.headD_cons, hgood, IE.eval]
  · by_cases hs : szOk w h
    · have hs' := hs
      unfold szOk at hs'
      have htl := tilesI_bd hs
      have c0 : szC w h = 0 := szC_zero.2 hs
      have e1 : binI .sub .i64 w 1 = w - 1 := wrap_i64 (by omega)
      have e2 : binI .sub .i64 h 1 = h - 1 := wrap_i64 (by omega)
      have e3 : binI .mul .i64 8 (tilesI w h) = 8 * tilesI w h := wrap_i64 (by omega)
      have e4 : binI .add .i64 13 (8 * tilesI w h) = 13 + 8 * tilesI w h := wrap_i64 (by omega)
      obtain ⟨a1, a2, _, _, _, a6⟩ := shr8 (v := w - 1) (by omega)
      obtain ⟨b1, b2, _, _, _, b6⟩ := shr8 (v := h - 1) (by omega)
      obtain ⟨t1, t2, t3, t4, t5, _⟩ := shr8 (v := tilesI w h) (by omega)
      have y1 : (w - 1) / 65536 = 0 := by omega
      have y2 : (h - 1) / 65536 = 0 := by omega
      have y3 : tilesI w h / 4294967296 = 0 := by omega
      simp only [allLeaves, AsOk_cons, AsOk_nil, BE.eval, cmpI, IE.eval, IE.reval, IE.aeval, hw, hh, hc, hf, FNd_50, FNd_51, List.headD_cons, c0, e1, e2, e3, e4, a6, b6, t5, y1, y2, y3, Nat.div_one, and_true, true_and, decide_eq_true_eq, decide_eq_false_iff_not, not_true_eq_false, not_false_eq_true, false_and, and_false, false_imp_iff]
      refine ⟨fun hA => stepG_cut0 ⟨rfl, w, h, lens, rfl, hs, hA, ?_, 0, 13, ?_, ?_, by omega, by simp, by omega, ?_, ?_, ?_⟩, fun hA => ?_⟩
      · simp [upd, lk_cons, lk_nil, hc]
      · simp [upd, lk_cons, lk_nil, IE.eval, vInt_int]
      · simp [upd, lk_cons, lk_nil, IE.eval, vInt_int]
      · simp [upd, lk_cons, lk_nil, IE.reval]
      · simp [upd, lk_cons, lk_nil, IE.eval, IE.reval, IE.aeval, hf, hw, hh, FNd_50, e3, e4, vInt_int]; omega
      · simp [upd, lk_cons, lk_nil, IE.eval, IE.reval, IE.aeval, hf, hw, hh, FNd_50, e1, e2, e3, e4, a1, a2, b1, b2, t1, t2, t3, t4, vInt_int, headL, u16L, u32L]
      · exact ret e0 6 _ _ (by rw [putC, if_pos hs, if_neg hA]) (by decide) ⟨_, rfl, by simp only [IE.eval]⟩
    · have c0 : szC w h = 3 := by rw [szC, if_neg hs]
      have c1 : ¬ ((3 : Int) = 0) := by omega
      simp only [allLeaves, AsOk_cons, AsOk_nil, BE.eval, cmpI, IE.eval, IE.reval, IE.aeval, hw, hh, hc, hf, FNd_50, FNd_51, List.headD_cons, c0, c1, and_true, true_and, decide_eq_true_eq, decide_eq_false_iff_not, not_true_eq_false, not_false_eq_true, false_and, and_false, false_imp_iff, true_imp_iff]
      exact ret e0 3 _ _ (by rw [putC, if_neg hs]) (by decide) ⟨_, rfl, by simp only [IE.eval, IE.reval, IE.aeval, hf, hw, hh, FNd_51, List.headD_cons, c0]⟩

end Go.Proofs.Ytkfejcffacbngaa
