import Derived.Test.YtkfejcffacbngaaDH

namespace Go.Proofs.Ytkfejcffacbngaa

open Go Go.Sym

set_option linter.unusedVariables false

theorem e_ok {c : Pc} (h : PcOk Try.prog FNd c) (h1 : c.id + c.rks.length ≤ 64) (h2 : ∀ i ∈ c.pre, i < 64) : PcOk Try.prog FNe c := by
  have key : ∀ i, i < 64 → FNe i = FNd i := by
    intro i hi
    funext l
    unfold FNe
    split <;> first | omega | rfl
  exact h.cong (fun i hi => key _ (by omega)) (fun i hi => key _ (h2 i hi))

theorem f_ok {c : Pc} (h : PcOk Try.prog FNe c) (h1 : c.id + c.rks.length ≤ 70) (h2 : ∀ i ∈ c.pre, i < 70) : PcOk Try.prog FNf c := by
  have key : ∀ i, i < 70 → FNf i = FNe i := by
    intro i hi
    funext l
    unfold FNf
    split <;> first | omega | rfl
  exact h.cong (fun i hi => key _ (by omega)) (fun i hi => key _ (h2 i hi))

theorem tiles_f : PcOk Try.prog FNf pcTiles := f_ok (e_ok (d_ok tiles_ok (by decide) (by decide)) (by decide) (by decide)) (by decide) (by decide)

theorem got_f : PcOk Try.prog FNf pcGot := f_ok got_ok (by decide) (by decide)

theorem knGet : ∀ env : Env, env.fn = FNf → KnOk Try.prog env [pcTiles.ct, pcGot.ct] := fun env h => knOk_cons (knOk_cons knOk_nil (Pc.ct_ok h got_f)) (Pc.ct_ok h tiles_f)

theorem FNf_50 (w h : Int) : FNf 50 [[w], [h]] = [tilesI w h] := rfl
theorem FNf_51 (w h : Int) : FNf 51 [[w], [h]] = [szC w h] := rfl
theorem FNf_64 (b : List Int) (a n : Int) : FNf 64 [b, [a], [n]] = [if gotC b a n = 0 then numU b a n.toNat else 0] := rfl
theorem FNf_70 (b : List Int) : FNf 70 [b] = [if getC b = 0 then wOf b else 0] := rfl
theorem FNf_71 (b : List Int) : FNf 71 [b] = [if getC b = 0 then hOf b else 0] := rfl
theorem FNf_72 (b : List Int) : FNf 72 [b] = if getC b = 0 then (entsOf b).getD [] else [] := rfl
theorem FNf_73 (b : List Int) : FNf 73 [b] = [getC b] := rfl

theorem nU_eq (b : List Int) (a n : Int) : IntKind.i64.wrap (if gotC b a n = 0 then numU b a n.toNat else 0) = nU b a n := rfl

theorem wOf_eq (b : List Int) : binI .add .i64 (nU b 5 2) 1 = wOf b := rfl

theorem hOf_eq (b : List Int) : binI .add .i64 (nU b 7 2) 1 = hOf b := rfl

/-- the head is right, and there is room for the directory -/
def headOk (b : List Int) : Prop := 13 ≤ b.length ∧ isMagic b ∧ szOk (wOf b) (hOf b) ∧ nU b 9 4 = tilesI (wOf b) (hOf b) ∧ 13 + 8 * tilesI (wOf b) (hOf b) ≤ (b.length : Int)

theorem getC_of {b : List Int} (h : headOk b) : getC b = if (entsOf b).isSome then 0 else 13 := by
  obtain ⟨h1, h2, h3, h4, h5⟩ := h
  rw [getC, if_neg (by omega), if_pos h2, if_pos h3, if_pos h4, if_neg (by omega)]

def invGet (ls : List (List Int)) (c : Nat) (env : Env) : Prop := c = 0 ∧ ∃ b, ls = [b] ∧ (b.length : Int) ≤ 4294967296 ∧ headOk b ∧ env.row 0 = b ∧ vInt (env.val 1) = wOf b ∧ vInt (env.val 2) = hOf b ∧ ∃ (T n k : Nat) (a : Int) (R : List Int),
  (T : Int) = tilesI (wOf b) (hOf b) ∧ vInt (env.val 7) = T ∧ vInt (env.val 8) = n ∧ vInt (env.val 5) = n ∧ vInt (env.val 6) = k ∧ n ≤ k ∧ k ≤ 4096 ∧ n ≤ T ∧ vInt (env.val 4) = a ∧ (0 ≤ a ∧ a ≤ 32781 + 1048576 * n) ∧
  env.row 3 = R ∧ R.length = 2 * k ∧ entsOf b = (getE b (T - n) n a).map (fun r => R.take (2 * n) ++ r)

theorem get_ok : PcOk Try.prog FNf pcGet := by
  refine pc_floyd_as (cs := cutGet) (aa := asB) (base := 1) mix pcGet knGet (Nat.le_refl 1) get_rounds get_entry invGet (fun ls _ env => (0, (5000 - vInt (env.val 8)).toNat)) (fun ls i env h => by have := h.1; simp; omega) ?_
  intro ls e0 hf hargs hrng hpre
  simp only [pcGet, ArgsE, ArgE] at hargs
  obtain ⟨b, _, rfl, ⟨hb, _⟩, rfl⟩ := hargs
  have hlen := (hrng.1 (.sl [.u8]) b rfl rfl).2
  simp only [measL, List.length_singleton, Nat.div_one] at hlen
  have ret : ∀ (env : Env) (code : Int) (o : Option (Nat × Nat)) (M : Mem) (s : SV), getC b = code → code ≠ 0 → (∃ e, toIE s = some (.i64, e) ∧ e.eval env = code) → StepG FNf [b] pcGet.id pcGet.rks (invGet [b]) (fun _ env => (0, (5000 - vInt (env.val 8)).toNat)) o env (.ret (.tuple [.int .i64 0, .int .i64 0, .nilslice, s]) M) := by
    intro env code o M s h1 h2 h3
    obtain ⟨e, h3, h4⟩ := h3
    refine ⟨[_, _, _, _], rfl, ⟨_, rfl, ?_⟩, ⟨_, rfl, ?_⟩, ⟨by decide, _, rfl, ?_, trivial⟩, ⟨e, h3, ?_⟩, rfl⟩
    · simp only [IE.eval, pcGet, FNf_70, h1, if_neg h2, List.headD_cons]
    · simp only [IE.eval, pcGet, Nat.reduceAdd, FNf_71, h1, if_neg h2, List.headD_cons]
    · simp only [IE.reval, pcGet, Nat.reduceAdd, FNf_72, h1, if_neg h2]
    · simp only [pcGet, Nat.reduceAdd, FNf_73, h1, List.headD_cons, h4]
  refine ⟨?_, fun env hfn => ⟨⟨?_, trivial⟩, ⟨?_, trivial⟩⟩, ?_⟩
  · simp only [asB, atmB, AsOk_cons, AsOk_nil, BE.eval, cmpI, IE.eval, IE.reval, hb, Nat.div_one]
    simp; omega
  · rintro ⟨_, b', hl, hbl, hh, q0, q1, q2, T, n, k, a, R, hT, q7, q8, q5, q6, h1, h2, h3, q4, h4, q3, h5, h6⟩
    simp only [nonneg, atmB, AsOk_cons, AsOk_nil, BE.eval, cmpI, IE.eval, IE.reval, q0, q5, q6, q8, Nat.div_one]
    simp; omega
  · rintro ⟨_, b', hl, hbl, hh, q0, q1, q2, T, n, k, a, R, hT, q7, q8, q5, q6, h1, h2, h3, q4, h4, q3, h5, h6⟩
    simp only [List.cons.injEq, and_true] at hl
    subst hl
    have hgc := getC_of hh
    have e8 : binI .mul .i64 8 (n : Int) = 8 * n := wrap_i64 (by omega)
    have e13 : binI .add .i64 13 (8 * (n : Int)) = 13 + 8 * n := wrap_i64 (by omega)
    have e17 : binI .add .i64 (13 + 8 * (n : Int)) 4 = 17 + 8 * n := by simp only [binI]; rw [wrap_i64 (by omega)]; omega
    obtain ⟨A, hA⟩ : ∃ z, nU b (13 + 8 * (n : Int)) 4 = z := ⟨_, rfl⟩
    obtain ⟨L, hL⟩ : ∃ z, nU b (17 + 8 * (n : Int)) 4 = z := ⟨_, rfl⟩
    by_cases hi : n < T
    · have hi' : (n : Int) < (T : Int) := by omega
      obtain ⟨m, hm⟩ : ∃ m, T - n = m + 1 := ⟨T - n - 1, by omega⟩
      rw [hm, getE, hA, hL] at h6
      simp only [allLeaves, AsOk_cons, AsOk_nil, BE.eval, cmpI, IE.eval, IE.reval, IE.aeval, hfn, q0, q4, q5, q6, q7, q8, Nat.div_one, FNf_64, List.headD_cons, e8, e13, e17, nU_eq, hA, hL, hi', and_true, decide_eq_true_eq, decide_eq_false_iff_not, not_true_eq_false, false_and, and_false, false_imp_iff, true_and]
      have bad : ¬ (A = a ∧ 1 ≤ L ∧ L ≤ 1048576) → getC b = 13 := fun h => by
        rw [if_neg h] at h6
        rw [hgc, h6]; rfl
      refine ⟨fun hq => ret env 13 _ _ _ (bad (by omega)) (by decide) ⟨_, rfl, by simp only [IE.eval]⟩, fun hq => ret env 13 _ _ _ (bad (by omega)) (by decide) ⟨_, rfl, by simp only [IE.eval]⟩, fun hq => ?_, fun hq => ret env 13 _ _ _ (bad (by omega)) (by decide) ⟨_, rfl, by simp only [IE.eval]⟩⟩
      rw [if_pos (by omega)] at h6
      have e1 : binI .add .i64 (n : Int) 1 = ((n + 1 : Nat) : Int) := by simp only [binI]; rw [wrap_i64 (by omega)]; omega
      have e2 : binI .add .i64 a L = a + L := wrap_i64 (by omega)
      have hsub : subL R 0 (n : Int) 2 = R.take (2 * n) := by simp [subL, Nat.mul_comm]
      refine stepG_cut ⟨rfl, b, rfl, hbl, hh, ?_, ?_, ?_, T, n + 1, n + 1, a + L, R.take (2 * n) ++ [A, L], hT, ?_, ?_, ?_, ?_, Nat.le_refl _, by have := tilesI_bd hh.2.2.1; omega, by omega, ?_, by omega, ?_, ?_, ?_⟩ (Prod.lex_def.2 (.inr ⟨rfl, ?_⟩))
      · simp [upd, lk_cons, lk_nil, q0]
      · simp [upd, lk_cons, lk_nil, IE.eval, q1, vInt_int]
      · simp [upd, lk_cons, lk_nil, IE.eval, q2, vInt_int]
      · simp [upd, lk_cons, lk_nil, IE.eval, q7, vInt_int]
      · simp [upd, lk_cons, lk_nil, IE.eval, q8, e1, vInt_int]
      · simp [upd, lk_cons, lk_nil, IE.eval, q5, vInt_int]
      · simp [upd, lk_cons, lk_nil, IE.eval, q5, vInt_int]
      · simp only [upd, lk_cons, lk_nil, Nat.reduceEqDiff, if_false, if_true, IE.eval, IE.reval, IE.aeval, hfn, q0, q4, q8, FNf_64, List.headD_cons, e8, e13, e17, nU_eq, hL, e2, vInt_int]
      · simp only [upd, lk_cons, lk_nil, Nat.reduceEqDiff, if_false, if_true, IE.eval, IE.reval, IE.aeval, hfn, q0, q3, q5, q8, FNf_64, List.headD_cons, e8, e13, e17, nU_eq, hA, hL, hsub]
      · simp; omega
      · rw [show T - (n + 1) = m by omega, h6, Option.map_map]
        congr 1
        funext r
        have : (R.take (2 * n) ++ [A, L]).take (2 * (n + 1)) = R.take (2 * n) ++ [A, L] := List.take_of_length_le (by simp; omega)
        simp only [Function.comp, this, List.append_assoc, List.cons_append, List.nil_append]
      · simp only [upd, lk_cons, lk_nil, Nat.reduceEqDiff, if_false, if_true, IE.eval, q8, e1, vInt_int]
        have := tilesI_bd hh.2.2.1
        exact dec5000 (m := T) hi (by omega)
    · have hi' : ¬ ((n : Int) < (T : Int)) := by omega
      obtain rfl : n = T := by omega
      rw [Nat.sub_self, getE] at h6
      simp only [Option.map_some, List.append_nil] at h6
      have hg0 : getC b = 0 := by rw [hgc, h6]; rfl
      simp only [allLeaves, AsOk_cons, AsOk_nil, BE.eval, cmpI, IE.eval, IE.reval, q0, q5, q6, q7, q8, Nat.div_one, hi', and_true, decide_eq_true_eq, decide_eq_false_iff_not, not_true_eq_false, not_false_eq_true, false_and, and_false, false_imp_iff, true_and]
      refine fun hq => ⟨[_, _, _, _], rfl, ⟨_, rfl, ?_⟩, ⟨_, rfl, ?_⟩, ⟨by decide, _, rfl, ?_, ?_⟩, ⟨_, rfl, ?_⟩, rfl⟩
      · simp only [IE.eval, pcGet, FNf_70, hg0, if_true, List.headD_cons, q1]
      · simp only [IE.eval, pcGet, Nat.reduceAdd, FNf_71, hg0, if_true, List.headD_cons, q2]
      · rw [subE_eval (by simp only [IE.reval, IE.eval, q3, q6]; simp; omega)]; simp only [IE.reval, IE.eval, q3, q5, subL, pcGet, Nat.reduceAdd, FNf_72, hg0, if_true, h6, Option.getD_some]
        simp [Nat.mul_comm]
      · refine ⟨by simp only [IE.eval, q5]; omega, fun B r cnt ks' g1 g2 => ?_⟩
        obtain rfl := Option.some.inj g1
        cases g2
        simp only [IE.eval, q5, q6]; omega
      · simp only [IE.eval, pcGet, Nat.reduceAdd, FNf_73, hg0, List.headD_cons]
  · have hw8 : 13 ≤ b.length → (w8L (subL b 0 13 1)).length = 13 := fun h => by simp [w8L, subL]; omega
    simp only [allLeaves, AsOk_cons, AsOk_nil, BE.eval, cmpI, IE.eval, IE.reval, IE.aeval, hb, hf, Nat.div_one, FNf_50, FNf_51, FNf_64, List.headD_cons, nU_eq, wOf_eq, hOf_eq, szC_zero, and_true, decide_eq_true_eq, decide_eq_false_iff_not]
    have tl : szOk (wOf b) (hOf b) → binI .add .i64 13 (binI .mul .i64 8 (tilesI (wOf b) (hOf b))) = 13 + 8 * tilesI (wOf b) (hOf b) ∧ 1 ≤ tilesI (wOf b) (hOf b) ∧ tilesI (wOf b) (hOf b) ≤ 4096 := fun h => by
      have := tilesI_bd h
      have e : binI .mul .i64 8 (tilesI (wOf b) (hOf b)) = 8 * tilesI (wOf b) (hOf b) := wrap_i64 (by omega)
      rw [e]
      exact ⟨wrap_i64 (by omega), this⟩
    refine ⟨fun hq => ?_, fun hq => ?_, fun hq => ?_, fun hq => ?_, fun hq => ?_, fun hq => ?_, fun hq => ?_, fun hq => ?_, fun hq => ?_⟩
    · exact ret e0 14 _ _ _ (by rw [getC, if_pos (by omega)]) (by decide) ⟨_, rfl, by simp only [IE.eval]⟩
    · exfalso
      have := hw8 (by omega)
      omega
    · obtain ⟨p1, p2, p3, p4, _, p6, _⟩ := hq
      have p4 : isMagic b := p4
      obtain ⟨e, _⟩ := tl p3
      rw [e] at p1
      exact ret e0 14 _ _ _ (by rw [getC, if_neg (by omega), if_pos p4, if_pos p3, if_pos p2, if_pos p1]) (by decide) ⟨_, rfl, by simp only [IE.eval]⟩
    · exfalso
      obtain ⟨e, _⟩ := tl hq.2.2.2.1
      omega
    · exfalso
      obtain ⟨e, _⟩ := tl hq.2.2.2.2.1
      omega
    · obtain ⟨p0, p0', p1, p2, p3, p4, _, p6, _⟩ := hq
      obtain ⟨e, t1, t2⟩ := tl p3
      rw [e] at p1
      have hh : headOk b := ⟨by omega, p4, p3, p2, by omega⟩
      obtain ⟨T, hT⟩ : ∃ T : Nat, (T : Int) = tilesI (wOf b) (hOf b) := ⟨(tilesI (wOf b) (hOf b)).toNat, by omega⟩
      have hrep : ∀ n : Nat, (List.flatten (List.replicate n [(0 : Int), 0])).length = 2 * n := by
        intro n
        induction n with
        | zero => rfl
        | succ n ih => rw [List.replicate_succ, List.flatten_cons, List.length_append, ih]; simp; omega
      refine stepG_cut0 ⟨rfl, b, rfl, by omega, hh, ?_, ?_, ?_, T, 0, T, 13 + 8 * tilesI (wOf b) (hOf b), repL (T : Int) [0, 0], hT, ?_, ?_, ?_, ?_, by omega, by omega, by omega, ?_, by omega, ?_, hrep _, ?_⟩
      · simp [upd, lk_cons, lk_nil, hb]
      · simp only [upd, lk_cons, lk_nil, Nat.reduceEqDiff, if_false, if_true, IE.eval, IE.reval, IE.aeval, hf, hb, FNf_64, List.headD_cons, nU_eq, wOf_eq, vInt_int]
      · simp only [upd, lk_cons, lk_nil, Nat.reduceEqDiff, if_false, if_true, IE.eval, IE.reval, IE.aeval, hf, hb, FNf_64, List.headD_cons, nU_eq, hOf_eq, vInt_int]
      · simp only [upd, lk_cons, lk_nil, Nat.reduceEqDiff, if_false, if_true, IE.eval, IE.reval, IE.aeval, hf, hb, FNf_64, FNf_50, List.headD_cons, nU_eq, wOf_eq, hOf_eq, hT, vInt_int]
      · simp only [upd, lk_cons, lk_nil, Nat.reduceEqDiff, if_false, if_true, IE.eval, vInt_int]; rfl
      · simp only [upd, lk_cons, lk_nil, Nat.reduceEqDiff, if_false, if_true, IE.eval, vInt_int]; rfl
      · simp only [upd, lk_cons, lk_nil, Nat.reduceEqDiff, if_false, if_true, IE.eval, IE.reval, IE.aeval, hf, hb, FNf_64, FNf_50, List.headD_cons, nU_eq, wOf_eq, hOf_eq, hT, vInt_int]
      · simp only [upd, lk_cons, lk_nil, Nat.reduceEqDiff, if_false, if_true, IE.eval, IE.reval, IE.aeval, hf, hb, FNf_64, FNf_50, List.headD_cons, nU_eq, wOf_eq, hOf_eq, e, vInt_int]
      · simp only [upd, lk_cons, lk_nil, Nat.reduceEqDiff, if_false, if_true, IE.eval, IE.reval, IE.aeval, hf, hb, FNf_64, FNf_50, List.headD_cons, nU_eq, wOf_eq, hOf_eq, hT]
      · have : (tilesI (wOf b) (hOf b)).toNat = T := by omega
        rw [entsOf, this]; simp
    · obtain ⟨p2, p3, p4, _, p6, _⟩ := hq
      have p4 : isMagic b := p4
      exact ret e0 6 _ _ _ (by rw [getC, if_neg (by omega), if_pos p4, if_pos p3, if_neg p2]) (by decide) ⟨_, rfl, by simp only [IE.eval]⟩
    · obtain ⟨p3, p4, _, p6, _⟩ := hq
      have p4 : isMagic b := p4
      exact ret e0 3 _ _ _ (by rw [getC, if_neg (by omega), if_pos p4, if_neg p3]) (by decide) ⟨_, rfl, by simp only [IE.eval, IE.reval, IE.aeval, hf, hb, FNf_64, FNf_51, List.headD_cons, nU_eq, wOf_eq, hOf_eq, szC, if_neg p3]⟩
    · obtain ⟨p4, _, p6, _⟩ := hq
      have p4 : ¬ isMagic b := p4
      exact ret e0 13 _ _ _ (by rw [getC, if_neg (by omega), if_neg p4]) (by decide) ⟨_, rfl, by simp only [IE.eval]⟩

end Go.Proofs.Ytkfejcffacbngaa
