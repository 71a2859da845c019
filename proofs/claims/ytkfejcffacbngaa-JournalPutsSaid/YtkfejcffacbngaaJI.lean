import Derived.Test.YtkfejcffacbngaaJH

namespace Go.Proofs.Ytkfejcffacbngaa.J

open Go Go.Sym

set_option linter.unusedVariables false

def invR (ls : List (List Int)) (c : Nat) (env : Env) : Prop := ∃ s b, ls = [[s], b] ∧ env.row 1 = b ∧ (b.length : Int) ≤ 4294967296 ∧ ∃ (n : Nat) (x : Int), vInt (env.val 3) = n ∧ n ≤ b.length ∧ vInt (env.val 2) = x ∧ 0 ≤ x ∧ x ≤ 4294967295 ∧
  ((c = 0 ∧ cfold x (b.drop n) = cfold (binI .xor .u32 4294967295 s) b) ∨ (c = 1 ∧ n < b.length ∧ ∃ k : Nat, vInt (env.val 4) = k ∧ k ≤ 8 ∧ cfold (cit (8 - k) x) (b.drop (n + 1)) = cfold (binI .xor .u32 4294967295 s) b))

theorem moreR_ok : PcOk Try.prog FNc pcMoreR := by
  refine pc_floyd (cs := cutMR) (base := 2) mix pcMoreR (fun _ _ => knOk_nil) (Nat.le_refl 2) moreR_rounds moreR_entry invR (fun ls c env => (2 * ((env.row 1).length - (vInt (env.val 3)).toNat) + (if c = 0 then 1 else 0), (8 - vInt (env.val 4)).toNat)) (fun ls i env h => by obtain ⟨_, _, _, _, _, _, _, _, _, _, _, _, h⟩ := h; simp; omega) ?_
  intro ls e0 hf hargs hrng hpre
  simp only [pcMoreR, ArgsE, ArgE] at hargs
  obtain ⟨s', _, rfl, hs, b, _, rfl, ⟨hb, _⟩, rfl⟩ := hargs
  obtain ⟨s, hsv⟩ : ∃ z, vInt (e0.val 0) = z := ⟨_, rfl⟩
  simp only [Nat.zero_add, hsv] at hs hb
  subst hs
  have hlen := (hrng.2.1 (.sl [.u8]) b rfl rfl).2
  simp only [measL, List.length_singleton, Nat.div_one] at hlen
  refine ⟨fun env hfn => ⟨⟨?_, ?_, trivial⟩, ⟨?_, ?_, trivial⟩⟩, ?_⟩
  · rintro ⟨_, b', hl, h1, h2, n, x, h3, h4, hx, hx0, hx1, _⟩
    simp only [asM, nonneg, atmB, AsOk_cons, AsOk_nil, BE.eval, cmpI, IE.eval, IE.reval, h1, h3, Nat.div_one]
    simp; omega
  · rintro ⟨_, b', hl, h1, h2, n, x, h3, h4, hx, hx0, hx1, ⟨h, _⟩ | ⟨_, _, k, h5, h6, _⟩⟩
    · cases h
    simp only [asM, List.cons_append, List.nil_append, nonneg, atmB, AsOk_cons, AsOk_nil, BE.eval, cmpI, IE.eval, IE.reval, h1, h3, h5, Nat.div_one]
    simp; omega
  · rintro ⟨s', b', hl, h1, h2, n, x, h3, h4, hx, hx0, hx1, ⟨_, h5⟩ | ⟨h, _⟩⟩
    case inr => cases h
    simp only [List.cons.injEq, and_true] at hl
    obtain ⟨⟨rfl⟩, rfl⟩ := hl
    simp only [allLeaves, AsOk_cons, AsOk_nil, BE.eval, cmpI, IE.eval, IE.reval, h1, h3, Nat.div_one, and_true]
    refine ⟨fun hA => ?_, fun hA => ?_⟩
    · have hA := of_decide_eq_true hA.1
      have hn : n < b.length := by omega
      refine stepG_cut ⟨s, b, rfl, ?_, h2, n, binI .xor .u32 x (IntKind.u32.wrap (selL b n 1 0)), ?_, h4, ?_, (xor_rng _ _).1, (xor_rng _ _).2, .inr ⟨rfl, hn, 0, ?_, by omega, ?_⟩⟩ (Prod.lex_def.2 (.inl ?_))
      · simp [upd, lk_nil, h1]
      · simp [upd, lk_cons, lk_nil, IE.eval, h3, vInt_int]
      · simp [upd, lk_cons, lk_nil, IE.eval, IE.reval, h1, h3, hx, vInt_int]
      · simp [upd, lk_cons, lk_nil, IE.eval, vInt_int]
      · rw [sel1 hn] at h5
        exact h5
      · simp [upd, lk_cons, lk_nil, IE.eval, h1, h3, vInt_int]
    · have hA := of_decide_eq_false hA.1
      obtain rfl : n = b.length := by omega
      refine ⟨[_], rfl, ⟨_, rfl, ?_⟩, rfl⟩
      rw [List.drop_eq_nil_of_le (Nat.le_refl _)] at h5
      simp only [IE.eval, pcMoreR, FNc_86, List.headD_cons, crcM, ← h5, hx]
      exact xor_comm _ _
  · rintro ⟨s', b', hl, h1, h2, n, x, h3, h4, hx, hx0, hx1, ⟨h, _⟩ | ⟨_, hn, k, h5, h6, h7⟩⟩
    · cases h
    simp only [List.cons.injEq, and_true] at hl
    obtain ⟨⟨rfl⟩, rfl⟩ := hl
    have e1 : (k : Int) < 8 → binI .add .i64 (k : Int) 1 = ((k + 1 : Nat) : Int) := fun h => by simp only [binI]; rw [wrap_i64 (by omega)]; omega
    have e2 := cstep_go x hx0 hx1
    have e3 := remN x hx0
    have e4 := quoN x hx0 hx1
    have e5 := cstep_rng x hx0 hx1
    simp only [allLeaves, AsOk_cons, AsOk_nil, BE.eval, cmpI, IE.eval, IE.reval, h1, h3, h5, hx, e3, Nat.div_one, and_true]
    refine ⟨fun hA => ?_, fun hA => ?_, fun hA => ?_⟩
    · have hB := of_decide_eq_true hA.1
      have hA := of_decide_eq_true hA.2.1
      have e1 := e1 hA
      rw [if_pos hB] at e2
      refine stepG_cut ⟨s, b, rfl, ?_, h2, n, cstep x, ?_, h4, ?_, e5.1, e5.2, .inr ⟨rfl, hn, k + 1, ?_, by omega, ?_⟩⟩ (Prod.lex_def.2 (.inr ⟨?_, ?_⟩))
      · simp [upd, lk_nil, h1]
      · simp [upd, lk_cons, lk_nil, IE.eval, h3, vInt_int]
      · simp [upd, lk_cons, lk_nil, IE.eval, hx, e4, e2, vInt_int]
      · simp [upd, lk_cons, lk_nil, IE.eval, h5, e1, vInt_int]
      · rw [show 8 - k = (8 - (k + 1)) + 1 by omega, cit] at h7
        exact h7
      · simp [upd, lk_cons, lk_nil, IE.eval, h1, h3, vInt_int]
      · simp [upd, lk_cons, lk_nil, IE.eval, h5, e1, vInt_int]; omega
    · have hB := of_decide_eq_false hA.1
      have hA := of_decide_eq_true hA.2.1
      have e1 := e1 hA
      rw [if_neg hB] at e2
      refine stepG_cut ⟨s, b, rfl, ?_, h2, n, cstep x, ?_, h4, ?_, e5.1, e5.2, .inr ⟨rfl, hn, k + 1, ?_, by omega, ?_⟩⟩ (Prod.lex_def.2 (.inr ⟨?_, ?_⟩))
      · simp [upd, lk_nil, h1]
      · simp [upd, lk_cons, lk_nil, IE.eval, h3, vInt_int]
      · simp [upd, lk_cons, lk_nil, IE.eval, hx, e4, e2, vInt_int]
      · simp [upd, lk_cons, lk_nil, IE.eval, h5, e1, vInt_int]
      · rw [show 8 - k = (8 - (k + 1)) + 1 by omega, cit] at h7
        exact h7
      · simp [upd, lk_cons, lk_nil, IE.eval, h1, h3, vInt_int]
      · simp [upd, lk_cons, lk_nil, IE.eval, h5, e1, vInt_int]; omega
    · have hA := of_decide_eq_false hA.1
      obtain rfl : k = 8 := by omega
      have e1 : binI .add .i64 (n : Int) 1 = ((n + 1 : Nat) : Int) := by simp only [binI]; rw [wrap_i64 (by omega)]; omega
      refine stepG_cut ⟨s, b, rfl, ?_, h2, n + 1, x, ?_, by omega, ?_, hx0, hx1, .inl ⟨rfl, ?_⟩⟩ (Prod.lex_def.2 (.inl ?_))
      · simp [upd, lk_nil, h1]
      · simp [upd, lk_cons, lk_nil, IE.eval, h3, e1, vInt_int]
      · simp [upd, lk_cons, lk_nil, IE.eval, hx, vInt_int]
      · exact h7
      · simp only [upd, lk_cons, lk_nil, Nat.reduceEqDiff, if_false, if_true, IE.eval, h1, h3, e1, vInt_int]
        simp; omega
  · simp only [allLeaves, AsOk_nil, and_true]
    intro _
    refine stepG_cut0 ⟨s, b, rfl, ?_, hlen, 0, binI .xor .u32 4294967295 s, ?_, by omega, ?_, (xor_rng _ _).1, (xor_rng _ _).2, .inl ⟨rfl, ?_⟩⟩
    · simp [upd, lk_nil, hb]
    · simp [upd, lk_cons, lk_nil, IE.eval, vInt_int]
    · simp [upd, lk_cons, lk_nil, IE.eval, vInt_int, hsv]
      exact xor_comm _ _
    · simp

end Go.Proofs.Ytkfejcffacbngaa.J
