import Derived.Test.YtagahpfinaaemaaQC

namespace Go.Proofs.Ytagahpfinaaemaa

open Go Go.Sym

set_option linter.unusedVariables false

def comQ (ls : List (List Int)) (env : Env) (x0 y0 x1 y1 : Int) (J : Nat) : Prop := ls = [[x0, y0, x1, y1]] ∧ (env.row 0 = [x0, y0, x1, y1] ∧ vInt (env.val 1) = J) ∧ J ≤ 64

def invQ (ls : List (List Int)) (c : Nat) (env : Env) : Prop := ∃ x0 y0 x1 y1 J, comQ ls env x0 y0 x1 y1 J ∧
  ((c = 0 ∧ allT x0 y0 x1 y1 J = []) ∨
   (c = 1 ∧ J < 64 ∧ ∃ I : Nat, vInt (env.val 2) = I ∧ I ≤ 64 ∧ doneP x0 y0 x1 y1 J I = []) ∨
   (c = 2 ∧ env.row 3 = allT x0 y0 x1 y1 J ∧ ∃ n : Int, vInt (env.val 4) = n ∧ 4 * n = (allT x0 y0 x1 y1 J).length) ∨
   (c = 3 ∧ J < 64 ∧ ∃ I : Nat, vInt (env.val 2) = I ∧ I ≤ 64 ∧ env.row 3 = doneP x0 y0 x1 y1 J I ∧ ∃ n : Int, vInt (env.val 4) = n ∧ 4 * n = (doneP x0 y0 x1 y1 J I).length))

theorem doneP_zero (x0 y0 x1 y1 : Int) (J : Nat) : doneP x0 y0 x1 y1 J 0 = allT x0 y0 x1 y1 J := by unfold doneP; rw [rowT, List.append_nil]

theorem doneP_all (x0 y0 x1 y1 : Int) (J I : Nat) (h : I = 64) : doneP x0 y0 x1 y1 J I = allT x0 y0 x1 y1 (J + 1) := by subst h; unfold doneP; rw [allT]

theorem doneP_no {x0 y0 x1 y1 : Int} {J I : Nat} (h : ¬ meetsP x0 y0 x1 y1 (16 * I) (16 * J) (16 * I + 15) (16 * J + 15)) : doneP x0 y0 x1 y1 J (I + 1) = doneP x0 y0 x1 y1 J I := by
  unfold doneP; rw [rowT, tile_no h, List.append_nil]

theorem doneP_is {x0 y0 x1 y1 : Int} {J I : Nat} (h : meetsP x0 y0 x1 y1 (16 * I) (16 * J) (16 * I + 15) (16 * J + 15)) : doneP x0 y0 x1 y1 J (I + 1) = doneP x0 y0 x1 y1 J I ++ meetL x0 y0 x1 y1 (16 * I) (16 * J) (16 * I + 15) (16 * J + 15) := by
  unfold doneP; rw [rowT, tileL, if_pos h, List.append_assoc]

theorem meetL_four (a0 b0 a1 b1 c0 d0 c1 d1 : Int) : [selL (meetL a0 b0 a1 b1 c0 d0 c1 d1) 0 4 0, selL (meetL a0 b0 a1 b1 c0 d0 c1 d1) 0 4 1, selL (meetL a0 b0 a1 b1 c0 d0 c1 d1) 0 4 2, selL (meetL a0 b0 a1 b1 c0 d0 c1 d1) 0 4 3] = meetL a0 b0 a1 b1 c0 d0 c1 d1 := by
  obtain ⟨p, q, r, s, h⟩ := len4 (meetL_len a0 b0 a1 b1 c0 d0 c1 d1)
  rw [h]; simp [selL]

theorem mul16 {n : Nat} (h : n ≤ 64) : binI .mul .i64 16 (n : Int) = 16 * n := wrap_i64 (by omega)
theorem add15 {n : Nat} (h : n ≤ 64) : binI .add .i64 (16 * (n : Int)) 15 = 16 * n + 15 := wrap_i64 (by omega)
theorem add1 {n : Nat} (h : n ≤ 64) : binI .add .i64 (n : Int) 1 = (n + 1 : Nat) := by simp only [binI]; rw [wrap_i64 (by omega)]; omega

theorem piecesR_ok : PcOk Try.prog FNp pcPiecesR := by
  refine pc_floyd (cs := cutsQ) mix pcPiecesR knMeetRP (by decide) piecesR_rounds piecesR_entry invQ (fun ls i env => ((5000 - vInt (env.val 1)).toNat, if i % 2 = 0 then 5000 else (4000 - vInt (env.val 2)).toNat))
    (fun ls i env h => by obtain ⟨_, _, _, _, _, _, h⟩ := h; simp; omega) ?_
  intro ls e0 hf hargs hrng hpre
  simp only [pcPiecesR, ArgsE, ArgE] at hargs
  obtain ⟨a, _, rfl, ⟨ha, hl⟩, rfl⟩ := hargs
  obtain ⟨x0, y0, x1, y1, rfl⟩ := len4 hl
  refine ⟨fun env hfn => ⟨⟨fun _ => by simp only [AsOk_nil], fun _ => by simp only [AsOk_nil], ?_, ?_, trivial⟩, ⟨?_, ?_, ?_, ?_, trivial⟩⟩, ?_⟩
  · rintro ⟨a0, b0, a1, b1, J, hcom, h | h | ⟨_, h4, n, h5, h6⟩ | h⟩
    · omega
    · omega
    · have := allT_len a0 b0 a1 b1 J
      have hJ := hcom.2.2
      simp only [asP, nonneg, atmB, AsOk_cons, AsOk_nil, BE.eval, cmpI, IE.eval, h5]
      simp; omega
    · omega
  · rintro ⟨a0, b0, a1, b1, J, hcom, h | h | h | ⟨_, hy, I, h1, hI, h4, n, h5, h6⟩⟩
    · omega
    · omega
    · omega
    · have := doneP_len a0 b0 a1 b1 J I hcom.2.2 hI
      simp only [asP, nonneg, atmB, AsOk_cons, AsOk_nil, BE.eval, cmpI, IE.eval, h5]
      simp; omega
  · rintro ⟨a0, b0, a1, b1, J, ⟨hl, ⟨q0, q1⟩, k1⟩, ⟨_, hJ⟩ | h | h | h⟩
    · simp only [List.cons.injEq, and_true] at hl
      obtain ⟨rfl, rfl, rfl, rfl⟩ := hl
      simp only [allLeaves, AsOk_cons, AsOk_nil, BE.eval, cmpI, IE.eval, IE.reval, q0, q1, sel4, and_true, decide_eq_true_eq, decide_eq_false_iff_not]
      refine ⟨fun hA => stepG_cut ⟨x0, y0, x1, y1, J, ⟨rfl, ⟨?_, ?_⟩, k1⟩, .inr (.inl ⟨rfl, by omega, 0, ?_, by omega, ?_⟩)⟩ (Prod.lex_def.2 ?_), fun hA => ?_⟩
      rotate_right
      · obtain rfl : J = 64 := by omega
        refine ⟨[_], rfl, ⟨by decide, _, rfl, ?_, ?_⟩, rfl⟩
        · rw [subE_eval (by simp [IE.eval, IE.reval])]; simp [IE.reval, IE.eval, subL, pcPiecesR, FNp_31, piecesL, hJ]
        · refine ⟨by simp [IE.eval], fun B r cnt ks' h1 h2 => ?_⟩
          obtain rfl := Option.some.inj h1
          cases h2
          exact Int.le_refl _
      all_goals simp [upd, lk_cons, lk_nil, IE.eval, IE.reval, q0, q1, sel4, vInt_int, doneP_zero, hJ]
    · omega
    · omega
    · omega
  · rintro ⟨a0, b0, a1, b1, J, ⟨hl, ⟨q0, q1⟩, k1⟩, h | ⟨_, hy, I, q2, hI, q3⟩ | h | h⟩
    · omega
    · simp only [List.cons.injEq, and_true] at hl
      obtain ⟨rfl, rfl, rfl, rfl⟩ := hl
      simp only [allLeaves, AsOk_cons, AsOk_nil, BE.eval, cmpI, IE.eval, IE.reval, IE.aeval, hfn, q0, q1, q2, sel4, FNp_23, FNp_22, encB_zero, mul16 hI, mul16 k1, add15 hI, add15 k1, and_true, decide_eq_true_eq, decide_eq_false_iff_not, Classical.not_not]
      refine ⟨fun hA => ?_, fun hA => ?_, fun hA => ?_⟩
      · refine stepG_cut ⟨x0, y0, x1, y1, J, ⟨rfl, ⟨?_, ?_⟩, k1⟩, .inr (.inl ⟨rfl, by omega, I + 1, ?_, by omega, by rw [doneP_no hA.1]; exact q3⟩)⟩ (Prod.lex_def.2 ?_)
        all_goals simp [upd, lk_cons, lk_nil, IE.eval, IE.reval, q0, q1, q2, sel4, vInt_int, add1 hI]
        omega
      · have e := doneP_is hA.1
        rw [q3, List.nil_append] at e
        refine stepG_cut ⟨x0, y0, x1, y1, J, ⟨rfl, ⟨?_, ?_⟩, k1⟩, .inr (.inr (.inr ⟨rfl, by omega, I + 1, ?_, by omega, ?_, 1, ?_, by rw [e, meetL_len]; rfl⟩))⟩ (Prod.lex_def.2 ?_)
        all_goals simp [upd, lk_cons, lk_nil, IE.eval, IE.reval, IE.aeval, hfn, q0, q1, q2, sel4, vInt_int, add1 hI, FNp_22, mul16 hI, mul16 k1, add15 hI, add15 k1, meetL_four, e]
        omega
      · have e := doneP_all x0 y0 x1 y1 J I (by omega)
        refine stepG_cut ⟨x0, y0, x1, y1, J + 1, ⟨rfl, ⟨?_, ?_⟩, by omega⟩, .inl ⟨rfl, by rw [← e]; exact q3⟩⟩ (Prod.lex_def.2 ?_)
        all_goals simp [upd, lk_cons, lk_nil, IE.eval, IE.reval, q0, q1, q2, sel4, vInt_int, add1 k1]
        omega
    · omega
    · omega
  · rintro ⟨a0, b0, a1, b1, J, ⟨hl, ⟨q0, q1⟩, k1⟩, h | h | ⟨_, q3, n, q4, q5⟩ | h⟩
    · omega
    · omega
    · simp only [List.cons.injEq, and_true] at hl
      obtain ⟨rfl, rfl, rfl, rfl⟩ := hl
      simp only [allLeaves, AsOk_cons, AsOk_nil, BE.eval, cmpI, IE.eval, IE.reval, q0, q1, q3, q4, sel4, and_true, decide_eq_true_eq, decide_eq_false_iff_not]
      refine ⟨fun hA => ?_, fun hA => ?_⟩
      · refine stepG_cut ⟨x0, y0, x1, y1, J, ⟨rfl, ⟨?_, ?_⟩, k1⟩, .inr (.inr (.inr ⟨rfl, by omega, 0, ?_, by omega, ?_, n, ?_, by rw [doneP_zero]; exact q5⟩))⟩ (Prod.lex_def.2 ?_)
        all_goals simp [upd, lk_cons, lk_nil, IE.eval, IE.reval, q0, q1, q3, q4, sel4, vInt_int, doneP_zero]
      · obtain rfl : J = 64 := by omega
        refine ⟨[_], rfl, ⟨by decide, _, rfl, ?_, ?_⟩, rfl⟩
        · rw [subE_eval (by simp only [IE.reval, IE.eval, q3, q4]; simp; omega)]; simp only [IE.reval, IE.eval, q3, q4, subL, pcPiecesR, FNp_31, piecesL]
          have : n.toNat * R4.length = (allT x0 y0 x1 y1 64).length := by simp; omega
          rw [this]; simp
        · refine ⟨by simp only [IE.eval, q4]; omega, fun B r cnt ks' h1 h2 => ?_⟩
          obtain rfl := Option.some.inj h1
          cases h2
          exact Int.le_refl _
    · omega
  · rintro ⟨a0, b0, a1, b1, J, ⟨hl, ⟨q0, q1⟩, k1⟩, h | h | h | ⟨_, hy, I, q2, hI, q3, n, q4, q5⟩⟩
    · omega
    · omega
    · omega
    · simp only [List.cons.injEq, and_true] at hl
      obtain ⟨rfl, rfl, rfl, rfl⟩ := hl
      simp only [allLeaves, AsOk_cons, AsOk_nil, BE.eval, cmpI, IE.eval, IE.reval, IE.aeval, hfn, q0, q1, q2, q3, q4, sel4, FNp_23, FNp_22, encB_zero, mul16 hI, mul16 k1, add15 hI, add15 k1, and_true, decide_eq_true_eq, decide_eq_false_iff_not, Classical.not_not]
      refine ⟨fun hA => ?_, fun hA => ?_, fun hA => ?_⟩
      · have e := doneP_no hA.1
        refine stepG_cut ⟨x0, y0, x1, y1, J, ⟨rfl, ⟨?_, ?_⟩, k1⟩, .inr (.inr (.inr ⟨rfl, by omega, I + 1, ?_, by omega, ?_, n, ?_, by rw [e]; exact q5⟩))⟩ (Prod.lex_def.2 ?_)
        all_goals simp [upd, lk_cons, lk_nil, IE.eval, IE.reval, q0, q1, q2, q3, q4, sel4, vInt_int, add1 hI, e]
        omega
      · have e := doneP_is hA.1
        refine stepG_cut ⟨x0, y0, x1, y1, J, ⟨rfl, ⟨?_, ?_⟩, k1⟩, .inr (.inr (.inr ⟨rfl, by omega, I + 1, ?_, by omega, ?_, n + 1, ?_, by rw [e, List.length_append, meetL_len]; omega⟩))⟩ (Prod.lex_def.2 ?_)
        all_goals simp [upd, lk_cons, lk_nil, IE.eval, IE.reval, IE.aeval, hfn, q0, q1, q2, q3, q4, sel4, vInt_int, add1 hI, FNp_22, mul16 hI, mul16 k1, add15 hI, add15 k1, meetL_four, e]
        omega
      · have e := doneP_all x0 y0 x1 y1 J I (by omega)
        refine stepG_cut ⟨x0, y0, x1, y1, J + 1, ⟨rfl, ⟨?_, ?_⟩, by omega⟩, .inr (.inr (.inl ⟨rfl, ?_, n, ?_, by rw [← e]; exact q5⟩))⟩ (Prod.lex_def.2 ?_)
        all_goals simp [upd, lk_cons, lk_nil, IE.eval, IE.reval, q0, q1, q2, q3, q4, sel4, vInt_int, add1 k1, e]
        omega
  · simp only [allLeaves, AsOk_cons, AsOk_nil, BE.eval, cmpI, IE.eval, IE.reval, IE.aeval, ha, hf, sel4, and_true, decide_eq_true_eq, decide_eq_false_iff_not]
    refine fun _ => stepG_cut0 ⟨x0, y0, x1, y1, 0, ⟨rfl, ⟨?_, ?_⟩, by omega⟩, .inl ⟨rfl, rfl⟩⟩
    all_goals simp [upd, lk_cons, lk_nil, IE.eval, IE.reval, ha, sel4, vInt_int]

end Go.Proofs.Ytagahpfinaaemaa
