import Derived.Test.YtkfejcffacbngaaJE

namespace Go.Proofs.Ytkfejcffacbngaa.J

open Go Go.Sym

set_option linter.unusedVariables false

theorem FNc_86 (s : Int) (b : List Int) : FNc 86 [[s], b] = [crcM s b] := rfl

theorem sel1 {l : List Int} {n : Nat} (h : n < l.length) : l.drop n = selL l (n : Int) 1 0 :: l.drop (n + 1) := by
  rw [List.drop_eq_getElem_cons h]
  simp [selL, h]

def invM (ls : List (List Int)) (c : Nat) (env : Env) : Prop := ∃ s b, ls = [[s], b] ∧ env.row 1 = b ∧ (b.length : Int) ≤ 4294967296 ∧ ∃ n : Nat, vInt (env.val 3) = n ∧ n ≤ b.length ∧
  ((c = 0 ∧ cfold (vInt (env.val 2)) (b.drop n) = cfold (binI .xor .u32 4294967295 s) b) ∨ (c = 1 ∧ n < b.length ∧ ∃ k : Nat, vInt (env.val 4) = k ∧ k ≤ 8 ∧ cfold (cit (8 - k) (vInt (env.val 2))) (b.drop (n + 1)) = cfold (binI .xor .u32 4294967295 s) b))

theorem more_ok : PcOk Try.prog FNc pcMore := by
  refine pc_floyd (cs := cutM) (base := 2) mix pcMore (fun _ _ => knOk_nil) (Nat.le_refl 2) more_rounds more_entry invM (fun ls c env => (2 * ((env.row 1).length - (vInt (env.val 3)).toNat) + (if c = 0 then 1 else 0), (8 - vInt (env.val 4)).toNat)) (fun ls i env h => by obtain ⟨_, _, _, _, _, _, _, _, h⟩ := h; simp; omega) ?_
  intro ls e0 hf hargs hrng hpre
  simp only [pcMore, ArgsE, ArgE] at hargs
  obtain ⟨s', _, rfl, hs, b, _, rfl, ⟨hb, _⟩, rfl⟩ := hargs
  obtain ⟨s, hsv⟩ : ∃ z, vInt (e0.val 0) = z := ⟨_, rfl⟩
  simp only [Nat.zero_add, hsv] at hs hb
  subst hs
  have hlen := (hrng.2.1 (.sl [.u8]) b rfl rfl).2
  simp only [measL, List.length_singleton, Nat.div_one] at hlen
  refine ⟨fun env hfn => ⟨⟨?_, ?_, trivial⟩, ⟨?_, ?_, trivial⟩⟩, ?_⟩
  · rintro ⟨_, b', hl, h1, h2, n, h3, h4, _⟩
    simp only [asM, nonneg, atmB, AsOk_cons, AsOk_nil, BE.eval, cmpI, IE.eval, IE.reval, h1, h3, Nat.div_one]
    simp; omega
  · rintro ⟨_, b', hl, h1, h2, n, h3, h4, ⟨h, _⟩ | ⟨_, _, k, h5, h6, _⟩⟩
    · cases h
    simp only [asM, List.cons_append, List.nil_append, nonneg, atmB, AsOk_cons, AsOk_nil, BE.eval, cmpI, IE.eval, IE.reval, h1, h3, h5, Nat.div_one]
    simp; omega
  · rintro ⟨s', b', hl, h1, h2, n, h3, h4, ⟨_, h5⟩ | ⟨h, _⟩⟩
    case inr => cases h
    simp only [List.cons.injEq, and_true] at hl
    obtain ⟨⟨rfl⟩, rfl⟩ := hl
    simp only [allLeaves, AsOk_cons, AsOk_nil, BE.eval, cmpI, IE.eval, IE.reval, h1, h3, Nat.div_one, and_true]
    refine ⟨fun hA => ?_, fun hA => ?_⟩
    · have hA := of_decide_eq_true hA.1
      have hn : n < b.length := by omega
      refine stepG_cut ⟨s, b, rfl, ?_, h2, n, ?_, h4, .inr ⟨rfl, hn, 0, ?_, by omega, ?_⟩⟩ (Prod.lex_def.2 (.inl ?_))
      · simp [upd, lk_nil, h1]
      · simp [upd, lk_cons, lk_nil, IE.eval, h3, vInt_int]
      · simp [upd, lk_cons, lk_nil, IE.eval, vInt_int]
      · rw [sel1 hn] at h5
        simp only [upd, lk_cons, lk_nil, Nat.reduceEqDiff, if_false, if_true, IE.eval, IE.reval, vInt_int, h1, h3]
        exact h5
      · simp [upd, lk_cons, lk_nil, IE.eval, h1, h3, vInt_int]
    · have hA := of_decide_eq_false hA.1
      obtain rfl : n = b.length := by omega
      refine ⟨[_], rfl, ⟨_, rfl, ?_⟩, rfl⟩
      rw [List.drop_eq_nil_of_le (Nat.le_refl _)] at h5
      simp only [IE.eval, pcMore, FNc_86, List.headD_cons, crcM, ← h5]
      rfl
  · rintro ⟨s', b', hl, h1, h2, n, h3, h4, ⟨h, _⟩ | ⟨_, hn, k, h5, h6, h7⟩⟩
    · cases h
    simp only [List.cons.injEq, and_true] at hl
    obtain ⟨⟨rfl⟩, rfl⟩ := hl
    simp only [allLeaves, AsOk_cons, AsOk_nil, BE.eval, cmpI, IE.eval, IE.reval, h1, h3, h5, Nat.div_one, and_true]
    refine ⟨fun hA => ?_, fun hA => ?_⟩
    · have hA := of_decide_eq_true hA.1
      have e1 : binI .add .i64 (k : Int) 1 = ((k + 1 : Nat) : Int) := by simp only [binI]; rw [wrap_i64 (by omega)]; omega
      refine stepG_cut ⟨s, b, rfl, ?_, h2, n, ?_, h4, .inr ⟨rfl, hn, k + 1, ?_, by omega, ?_⟩⟩ (Prod.lex_def.2 (.inr ⟨?_, ?_⟩))
      · simp [upd, lk_nil, h1]
      · simp [upd, lk_cons, lk_nil, IE.eval, h3, vInt_int]
      · simp [upd, lk_cons, lk_nil, IE.eval, h5, e1, vInt_int]
      · rw [show 8 - k = (8 - (k + 1)) + 1 by omega, cit] at h7
        simp only [upd, lk_cons, lk_nil, Nat.reduceEqDiff, if_false, if_true, IE.eval, vInt_int]
        exact h7
      · simp [upd, lk_cons, lk_nil, IE.eval, h1, h3, vInt_int]
      · simp [upd, lk_cons, lk_nil, IE.eval, h5, e1, vInt_int]; omega
    · have hA := of_decide_eq_false hA.1
      obtain rfl : k = 8 := by omega
      have e1 : binI .add .i64 (n : Int) 1 = ((n + 1 : Nat) : Int) := by simp only [binI]; rw [wrap_i64 (by omega)]; omega
      refine stepG_cut ⟨s, b, rfl, ?_, h2, n + 1, ?_, by omega, .inl ⟨rfl, ?_⟩⟩ (Prod.lex_def.2 (.inl ?_))
      · simp [upd, lk_nil, h1]
      · simp [upd, lk_cons, lk_nil, IE.eval, h3, e1, vInt_int]
      · simp only [upd, lk_cons, lk_nil, Nat.reduceEqDiff, if_false, if_true, IE.eval, vInt_int]
        exact h7
      · simp only [upd, lk_cons, lk_nil, Nat.reduceEqDiff, if_false, if_true, IE.eval, h1, h3, e1, vInt_int]
        simp; omega
  · simp only [allLeaves, AsOk_nil, and_true]
    intro _
    refine stepG_cut0 ⟨s, b, rfl, ?_, hlen, 0, ?_, by omega, .inl ⟨rfl, ?_⟩⟩
    · simp [upd, lk_nil, hb]
    · simp [upd, lk_cons, lk_nil, IE.eval, vInt_int]
    · simp [upd, lk_cons, lk_nil, IE.eval, vInt_int, hsv]

end Go.Proofs.Ytkfejcffacbngaa.J
