import Derived.Test.YtkfejcffacbngaaJC

namespace Go.Proofs.Ytkfejcffacbngaa.J

open Go Go.Sym

set_option linter.unusedVariables false

theorem lebC_at {b : List Int} {a : Int} {k : Nat} (h : k ≤ 9) : lebC b a (10 - k) k = if (b.length : Int) - a ≤ k then (14, 0) else if (k = 9 ∧ 1 < selL b (a + k) 1 0) ∨ (0 < k ∧ selL b (a + k) 1 0 = 0) then (13, 0) else if selL b (a + k) 1 0 < 128 then (0, k + 1) else lebC b a (10 - (k + 1)) (k + 1) := by
  rw [show 10 - k = (10 - (k + 1)) + 1 by omega, lebC]

def invGl (ls : List (List Int)) (c : Nat) (env : Env) : Prop := c = 0 ∧ ∃ b a, ls = [b, [a]] ∧ 0 ≤ a ∧ a ≤ (b.length : Int) ∧ (b.length : Int) ≤ 4294967296 ∧ env.row 0 = b ∧ vInt (env.val 1) = a ∧ ∃ k : Nat, vInt (env.val 3) = k ∧ (k : Int) ≤ (b.length : Int) - a ∧ k ≤ 9 ∧ vInt (env.val 2) = lebU b a k ∧ lebC b a 10 0 = lebC b a (10 - k) k

theorem lebG_ok : PcOk Try.prog FNb pcLebG := by
  refine pc_floyd_as (cs := cutGl) (base := 2) mix pcLebG (fun _ _ => knOk_nil) (Nat.le_refl 2) lebG_rounds lebG_entry invGl (fun ls _ env => (0, (50 - vInt (env.val 3)).toNat)) (fun ls i env h => by have := h.1; simp; omega) ?_
  intro ls e0 hf hargs hrng hpre
  simp only [pcLebG, ArgsE, ArgE] at hargs
  obtain ⟨b, _, rfl, ⟨hb, _⟩, a', _, rfl, ha, rfl⟩ := hargs
  have hlen := (hrng.1 (.sl [.u8]) b rfl rfl).2
  simp only [measL, List.length_singleton, Nat.div_one] at hlen
  obtain ⟨a, hav⟩ : ∃ z, vInt (e0.val 1) = z := ⟨_, rfl⟩
  simp only [Nat.zero_add, hav] at ha
  subst ha
  have ret : ∀ (env : Env) (code : Int) (o : Option (Nat × Nat)) (M : Mem), (lebR b a).1 = code → code ≠ 0 → StepG FNb [b, [a]] pcLebG.id pcLebG.rks (invGl [b, [a]]) (fun _ env => (0, (50 - vInt (env.val 3)).toNat)) o env (.ret (.tuple [.int .u64 0, .int .i64 0, .int .i64 code]) M) := by
    intro env code o M h1 h2
    refine ⟨[_, _, _], rfl, ⟨_, rfl, ?_⟩, ⟨_, rfl, ?_⟩, ⟨_, rfl, ?_⟩, rfl⟩
    · simp only [IE.eval, pcLebG, FNb_83, h1, if_neg h2, List.headD_cons]
    · simp only [IE.eval, pcLebG, Nat.reduceAdd, FNb_84, h1, if_neg h2, List.headD_cons]
    · simp only [IE.eval, pcLebG, Nat.reduceAdd, FNb_85, h1, List.headD_cons]
  refine ⟨?_, fun env hfn => ⟨⟨?_, trivial⟩, ⟨?_, trivial⟩⟩, ?_⟩
  · simp only [atmB, AsOk_cons, AsOk_nil, BE.eval, cmpI, IE.eval, IE.reval, hb, Nat.div_one]
    simp; omega
  · rintro ⟨_, b', a', hl, h1, h2, h3, q0, q1, k, q3, h4, h5, q2, h6⟩
    have e7 : binI .mul .i64 7 (k : Int) = 7 * k := wrap_i64 (by omega)
    simp only [asG, restB, List.cons_append, List.nil_append, nonneg, atmB, AsOk_cons, AsOk_nil, BE.eval, cmpI, IE.eval, IE.reval, q0, q1, q3, e7, Nat.div_one]
    simp; omega
  · rintro ⟨_, b', a', hl, h1, h2, h3, q0, q1, k, q3, h4, h5, q2, h6⟩
    simp only [List.cons.injEq, and_true] at hl
    obtain ⟨rfl, rfl⟩ := hl
    have hR : lebR b a = lebC b a (10 - k) k := by rw [lebR, if_pos ⟨h1, h2⟩, h6]
    have hat := lebC_at (b := b) (a := a) h5
    obtain ⟨c, hc⟩ : ∃ c, selL b (a + k) 1 0 = c := ⟨_, rfl⟩
    rw [hc] at hat
    have e1 : binI .add .i64 (k : Int) 1 = ((k + 1 : Nat) : Int) := by simp only [binI]; rw [wrap_i64 (by omega)]; omega
    have e2 : binI .add .i64 (binI .add .i64 a (k : Int)) 1 = a + ((k + 1 : Nat) : Int) := by
      have : binI .add .i64 a (k : Int) = a + k := wrap_i64 (by omega)
      rw [this]; simp only [binI]; rw [wrap_i64 (by omega)]; omega
    have good : ∀ (o : Option (Nat × Nat)) (M : Mem), lebC b a (10 - k) k = (0, k + 1) → StepG FNb [b, [a]] pcLebG.id pcLebG.rks (invGl [b, [a]]) (fun _ env => (0, (50 - vInt (env.val 3)).toNat)) o env (.ret (.tuple [.sint .u64 (.bin .or .u64 (.var 2) (.bin .shl .u64 (.wrap .u64 (.bin .and .u8 (.sel (.rvar 0) (.plus (.var 1) (.var 3)) 1 0) (.lit 127))) (.bin .mul .i64 (.lit 7) (.var 3)))), .sint .i64 (.bin .add .i64 (.bin .add .i64 (.var 1) (.var 3)) (.lit 1)), .int .i64 0]) M) := by
      intro o M h
      rw [h] at hR
      refine ⟨[_, _, _], rfl, ⟨_, rfl, ?_⟩, ⟨_, rfl, ?_⟩, ⟨_, rfl, ?_⟩, rfl⟩
      · simp only [IE.eval, IE.reval, pcLebG, FNb_83, hR, if_true, List.headD_cons, q0, q1, q2, q3, lebU]
      · simp only [IE.eval, pcLebG, Nat.reduceAdd, FNb_84, hR, if_true, List.headD_cons, q1, q3, e2]
      · simp only [IE.eval, pcLebG, Nat.reduceAdd, FNb_85, hR, List.headD_cons]
    have next : ∀ (m : Nat × Nat), m = (0, (50 - (k : Int)).toNat) → lebC b a (10 - k) k = lebC b a (10 - (k + 1)) (k + 1) → k ≠ 9 → (k : Int) < (b.length : Int) - a → StepG FNb [b, [a]] pcLebG.id pcLebG.rks (invGl [b, [a]]) (fun _ env => (0, (50 - vInt (env.val 3)).toNat)) (some m) env (.cut 0 ⟨[(3, .bin .add .i64 (.var 3) (.lit 1)), (2, .bin .or .u64 (.var 2) (.bin .shl .u64 (.wrap .u64 (.bin .and .u8 (.sel (.rvar 0) (.plus (.var 1) (.var 3)) 1 0) (.lit 127))) (.bin .mul .i64 (.lit 7) (.var 3))))], [], [], []⟩) := by
      rintro m rfl h9 h10 h11
      refine stepG_cut ⟨rfl, b, a, rfl, h1, h2, h3, ?_, ?_, k + 1, ?_, by omega, by omega, ?_, by rw [h6, h9]⟩ (Prod.lex_def.2 (.inr ⟨rfl, ?_⟩))
      · simp [upd, lk_nil, q0]
      · simp [upd, lk_cons, lk_nil, q1]
      · simp [upd, lk_cons, lk_nil, IE.eval, q3, e1, vInt_int]
      · simp only [upd, lk_cons, lk_nil, Nat.reduceEqDiff, if_false, if_true, IE.eval, IE.reval, vInt_int, q0, q1, q2, q3, lebU]
      · simp only [upd, lk_cons, lk_nil, Nat.reduceEqDiff, if_false, if_true, IE.eval, q3, e1, vInt_int]
        omega
    simp only [allLeaves, AsOk_cons, AsOk_nil, BE.eval, cmpI, IE.eval, IE.reval, q0, q1, q3, hc, Nat.div_one, and_true]
    simp only [decide_eq_true_eq, decide_eq_false_iff_not]
    refine ⟨fun hA => ?_, fun hA => ?_, fun hA => ?_, fun hA => ?_, fun hA => ?_, fun hA => ?_, fun hA => ?_, fun hA => ?_, fun hA => ?_, fun hA => ?_⟩
    all_goals first
      | exact ret env 13 _ _ (by rw [hR, hat, if_neg (by omega), if_pos (by omega)]) (by decide)
      | exact ret env 14 _ _ (by rw [hR, hat, if_pos (by omega)]) (by decide)
      | exact good _ _ (by rw [hat, if_neg (by omega), if_neg (by omega), if_pos (by omega)])
      | exact next _ rfl (by rw [hat, if_neg (by omega), if_neg (by omega), if_neg (by omega)]) (by omega) (by omega)
      | (exfalso; omega)
  · simp only [allLeaves, AsOk_cons, AsOk_nil, BE.eval, cmpI, IE.eval, IE.reval, hb, hav, Nat.div_one, and_true]
    refine ⟨fun hA => ret _ 11 _ _ ?_ (by decide), fun hA => ret _ 11 _ _ ?_ (by decide), fun hA => ?_⟩
    · have hA := of_decide_eq_true hA.1
      rw [lebR, if_neg (by omega)]
    · have hA := of_decide_eq_true hA.1
      rw [lebR, if_neg (by omega)]
    · have hA1 := of_decide_eq_false hA.1
      have hA2 := of_decide_eq_false hA.2.1
      refine stepG_cut0 ⟨rfl, b, a, rfl, by omega, by omega, hlen, ?_, ?_, 0, ?_, by omega, by omega, ?_, rfl⟩
      · simp [upd, lk_nil, hb]
      · simp [upd, lk_cons, lk_nil, hav]
      · simp [upd, lk_cons, lk_nil, IE.eval, vInt_int]
      · simp [upd, lk_cons, lk_nil, IE.eval, vInt_int, lebU]

end Go.Proofs.Ytkfejcffacbngaa.J
