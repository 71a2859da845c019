import Derived.Test.YtkfejcffacbngaaDF

namespace Go.Proofs.Ytkfejcffacbngaa

open Go Go.Sym

set_option linter.unusedVariables false

theorem FNe_64 (b : List Int) (a n : Int) : FNe 64 [b, [a], [n]] = [if gotC b a n = 0 then numU b a n.toNat else 0] := rfl
theorem FNe_65 (b : List Int) (a n : Int) : FNe 65 [b, [a], [n]] = [if gotC b a n = 0 then a + n else 0] := rfl
theorem FNe_66 (b : List Int) (a n : Int) : FNe 66 [b, [a], [n]] = [gotC b a n] := rfl

theorem gotC_zero {b : List Int} {a n : Int} : gotC b a n = 0 ↔ 1 ≤ n ∧ n ≤ 8 ∧ 0 ≤ a ∧ a + n ≤ (b.length : Int) := by
  unfold gotC
  by_cases h1 : 1 ≤ n ∧ n ≤ 8 ∧ 0 ≤ a ∧ a ≤ (b.length : Int)
  · rw [if_pos h1]
    by_cases h2 : (b.length : Int) - a < n
    · rw [if_pos h2]; omega
    · rw [if_neg h2]; omega
  · rw [if_neg h1]; omega

def invGot (ls : List (List Int)) (c : Nat) (env : Env) : Prop := c = 0 ∧ ∃ b a n, ls = [b, [a], [n]] ∧ gotC b a n = 0 ∧ (b.length : Int) ≤ 4294967296 ∧ env.row 0 = b ∧ vInt (env.val 1) = a ∧ vInt (env.val 2) = n ∧ ∃ k : Nat, vInt (env.val 4) = k ∧ (k : Int) ≤ n ∧ vInt (env.val 3) = numU b a k

theorem got_ok : PcOk Try.prog FNe pcGot := by
  refine pc_floyd_as (cs := cutGot) (aa := asB) (base := 3) mix pcGot (fun _ _ => knOk_nil) (Nat.le_refl 3) got_rounds got_entry invGot (fun ls _ env => (0, (50 - vInt (env.val 4)).toNat)) (fun ls i env h => by have := h.1; simp; omega) ?_
  intro ls e0 hf hargs hrng hpre
  simp only [pcGot, ArgsE, ArgE] at hargs
  obtain ⟨b, _, rfl, ⟨hb, _⟩, a', _, rfl, ha, n', _, rfl, hn, rfl⟩ := hargs
  have hlen := (hrng.1 (.sl [.u8]) b rfl rfl).2
  simp only [measL, List.length_singleton, Nat.div_one] at hlen
  obtain ⟨a, hav⟩ : ∃ z, vInt (e0.val 1) = z := ⟨_, rfl⟩
  obtain ⟨n, hnv⟩ : ∃ z, vInt (e0.val 2) = z := ⟨_, rfl⟩
  simp only [Nat.zero_add, Nat.reduceAdd, hav, hnv] at ha hn
  subst ha; subst hn
  have ret : ∀ (env : Env) (code : Int) (o : Option (Nat × Nat)) (M : Mem), gotC b a n = code → code ≠ 0 → StepG FNe [b, [a], [n]] pcGot.id pcGot.rks (invGot [b, [a], [n]]) (fun _ env => (0, (50 - vInt (env.val 4)).toNat)) o env (.ret (.tuple [.int .u64 0, .int .i64 0, .int .i64 code]) M) := by
    intro env code o M h1 h2
    refine ⟨[_, _, _], rfl, ⟨_, rfl, ?_⟩, ⟨_, rfl, ?_⟩, ⟨_, rfl, ?_⟩, rfl⟩
    · simp only [IE.eval, pcGot, FNe_64, h1, if_neg h2, List.headD_cons]
    · simp only [IE.eval, pcGot, Nat.reduceAdd, FNe_65, h1, if_neg h2, List.headD_cons]
    · simp only [IE.eval, pcGot, Nat.reduceAdd, FNe_66, h1, List.headD_cons]
  refine ⟨?_, fun env hfn => ⟨⟨?_, trivial⟩, ⟨?_, trivial⟩⟩, ?_⟩
  · simp only [asB, atmB, AsOk_cons, AsOk_nil, BE.eval, cmpI, IE.eval, IE.reval, hb, Nat.div_one]
    simp; omega
  · rintro ⟨_, b', a', n', hl, hc, hbl, q0, q1, q2, k, q4, hk, q3⟩
    have hz := gotC_zero.1 hc
    have e : binI .add .i64 a' n' = a' + n' := wrap_i64 (by omega)
    simp only [nonneg, atmB, AsOk_cons, AsOk_nil, BE.eval, cmpI, IE.eval, IE.reval, q0, q1, q2, q4, e, Nat.div_one]
    simp; omega
  · rintro ⟨_, b', a', n', hl, hc, hbl, q0, q1, q2, k, q4, hk, q3⟩
    simp only [List.cons.injEq, and_true] at hl
    obtain ⟨rfl, rfl, rfl⟩ := hl
    have hz := gotC_zero.1 hc
    have e : binI .add .i64 a n = a + n := wrap_i64 (by omega)
    have e8 : binI .mul .i64 8 (k : Int) = 8 * k := wrap_i64 (by omega)
    have e1 : binI .add .i64 (k : Int) 1 = ((k + 1 : Nat) : Int) := by simp only [binI]; rw [wrap_i64 (by omega)]; omega
    simp only [allLeaves, AsOk_cons, AsOk_nil, BE.eval, cmpI, IE.eval, IE.reval, q0, q1, q2, q4, e, Nat.div_one, and_true, decide_eq_true_eq, decide_eq_false_iff_not]
    refine ⟨fun hA => ?_, fun hA => ?_, fun hA => ?_, fun hA => ?_⟩
    · exfalso; rw [e8] at hA; omega
    · refine stepG_cut ⟨rfl, b, a, n, rfl, hc, hbl, ?_, ?_, ?_, k + 1, ?_, by omega, ?_⟩ (Prod.lex_def.2 (.inr ⟨rfl, ?_⟩))
      · simp [upd, lk_nil, q0]
      · simp [upd, lk_cons, lk_nil, q1]
      · simp [upd, lk_cons, lk_nil, q2]
      · simp [upd, lk_cons, lk_nil, IE.eval, q4, e1, vInt_int]
      · simp only [upd, lk_cons, lk_nil, Nat.reduceEqDiff, if_false, if_true, IE.eval, IE.reval, q0, q1, q3, q4, vInt_int, numU, bitU]
      · simp [upd, lk_cons, lk_nil, IE.eval, q4, e1, vInt_int]; omega
    · exfalso; omega
    · have hkn : k = n.toNat := by omega
      refine ⟨[_, _, _], rfl, ⟨_, rfl, ?_⟩, ⟨_, rfl, ?_⟩, ⟨_, rfl, ?_⟩, rfl⟩
      · simp only [IE.eval, pcGot, FNe_64, hc, if_true, List.headD_cons, q3, hkn]
      · simp only [IE.eval, pcGot, Nat.reduceAdd, FNe_65, hc, if_true, List.headD_cons, q1, q2, e]
      · simp only [IE.eval, pcGot, Nat.reduceAdd, FNe_66, hc, List.headD_cons]
  · have es : 0 ≤ a ∧ a ≤ (b.length : Int) → binI .sub .i64 (b.length : Int) a = b.length - a := fun h => wrap_i64 (by omega)
    simp only [allLeaves, AsOk_cons, AsOk_nil, BE.eval, cmpI, IE.eval, IE.reval, hb, hav, hnv, Nat.div_one, and_true, decide_eq_true_eq, decide_eq_false_iff_not]
    have no11 : ¬ (1 ≤ n ∧ n ≤ 8 ∧ 0 ≤ a ∧ a ≤ (b.length : Int)) → gotC b a n = 11 := fun h => by rw [gotC, if_neg h]
    refine ⟨fun hA => ret e0 11 _ _ (no11 (by omega)) (by decide), fun hA => ret e0 11 _ _ (no11 (by omega)) (by decide), fun hA => ret e0 11 _ _ (no11 (by omega)) (by decide), fun hA => ret e0 11 _ _ (no11 (by omega)) (by decide), fun hA => ?_, fun hA => ?_, fun hA => ?_, fun hA => ?_⟩
    · have e := es (by omega)
      rw [e] at hA
      exact ret e0 14 _ _ (by rw [gotC, if_pos (by omega), if_pos (by omega)]) (by decide)
    · exfalso
      have e := es (by omega)
      have e' : binI .add .i64 a n = a + n := wrap_i64 (by omega)
      rw [e, e'] at hA; omega
    · exfalso
      have e := es (by omega)
      have e' : binI .add .i64 a n = a + n := wrap_i64 (by omega)
      rw [e, e'] at hA; omega
    · have e := es (by omega)
      have e' : binI .add .i64 a n = a + n := wrap_i64 (by omega)
      rw [e, e'] at hA
      refine stepG_cut0 ⟨rfl, b, a, n, rfl, gotC_zero.2 (by omega), by omega, ?_, ?_, ?_, 0, ?_, by omega, ?_⟩
      · simp [upd, lk_nil, hb]
      · simp [upd, lk_cons, lk_nil, hav]
      · simp [upd, lk_cons, lk_nil, hnv]
      · simp [upd, lk_cons, lk_nil, IE.eval, vInt_int]
      · simp [upd, lk_cons, lk_nil, IE.eval, vInt_int, numU]

end Go.Proofs.Ytkfejcffacbngaa
