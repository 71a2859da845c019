import Derived.Test.YtagahpfinaaemaaQB

namespace Go.Proofs.Ytagahpfinaaemaa

open Go Go.Sym

set_option linter.unusedVariables false

theorem one_lt {i n : Nat} (h : i < n) (hn : n = 1) : i = 0 := by omega

theorem right_p : PcOk Try.prog FNp pcRight := right_ok.cong (fun i hi => by obtain rfl := one_lt hi rfl; funext l; rfl) (by intro i hi; cases hi)

theorem has_p : PcOk Try.prog FNp pcHas := has_ok.cong (fun i hi => by obtain rfl := one_lt hi rfl; funext l; rfl) (by intro i hi; cases hi)

theorem meetR_p : PcOk Try.prog FNp pcMeetR := meetR_ok.cong (fun i hi => by
    have hi : i < 2 := hi
    obtain rfl | rfl : i = 0 ∨ i = 1 := by omega
    · funext l; rfl
    · funext l; rfl) (by intro i hi; cases hi)

theorem knRightP : ∀ env : Env, env.fn = FNp → KnOk Try.prog env [pcRight.ct] := fun env h => knOk_cons knOk_nil (Pc.ct_ok h right_p)

theorem knMeetRP : ∀ env : Env, env.fn = FNp → KnOk Try.prog env [pcMeetR.ct] := fun env h => knOk_cons knOk_nil (Pc.ct_ok h meetR_p)

theorem areaI_bd (a b c d : Int) : 0 ≤ areaI a b c d ∧ areaI a b c d ≤ 1048576 := by
  unfold areaI; split
  · rename_i h
    unfold rightP at h
    have p1 : 0 ≤ (c + 1 - a) * (d + 1 - b) := Int.mul_nonneg (by omega) (by omega)
    have p2 : (c + 1 - a) * (d + 1 - b) ≤ 1024 * 1024 := Int.mul_le_mul (by omega) (by omega) (by omega) (by omega)
    omega
  · omega

theorem FNp_20 (a b c d : Int) : FNp 20 [[a, b, c, d]] = encB (decide (rightP a b c d)) := rfl
theorem FNp_21 (a b c d x y : Int) : FNp 21 [[a, b, c, d], [x, y]] = encB (decide (hasP a b c d x y)) := rfl
theorem FNp_22 (a b c d e f g h : Int) : FNp 22 [[a, b, c, d], [e, f, g, h]] = meetL a b c d e f g h := rfl
theorem FNp_23 (a b c d e f g h : Int) : FNp 23 [[a, b, c, d], [e, f, g, h]] = encB (decide (meetsP a b c d e f g h)) := rfl
theorem FNp_30 (a b c d : Int) : FNp 30 [[a, b, c, d]] = [areaI a b c d] := rfl
theorem FNp_31 (a b c d : Int) : FNp 31 [[a, b, c, d]] = piecesL a b c d := rfl
theorem FNp_32 (a b : List Int) : FNp 32 [a, b] = encB (decide (a = b)) := rfl

theorem area_ok : PcOk Try.prog FNp pcArea := by
  refine pc_floyd (cs := []) mix pcArea knRightP (by decide) (by rfl) area_entry (fun _ _ _ => False) (fun _ _ _ => (0, 0)) (fun _ _ _ h => h.elim) ?_
  intro ls e0 hf hargs hrng hpre
  simp only [pcArea, ArgsE, ArgE] at hargs
  obtain ⟨a, _, rfl, ⟨ha, hl⟩, rfl⟩ := hargs
  obtain ⟨x0, y0, x1, y1, rfl⟩ := len4 hl
  refine ⟨fun _ _ => ⟨trivial, trivial⟩, ?_⟩
  simp only [allLeaves, AsOk_cons, AsOk_nil, BE.eval, cmpI, IE.eval, IE.reval, IE.aeval, ha, hf, sel4, and_true, decide_eq_true_eq, decide_eq_false_iff_not, StepG, pcArea, FNp_20, FNp_30, encB_zero, Classical.not_not]
  refine ⟨fun hA => ⟨[_], rfl, ⟨_, rfl, ?_⟩, rfl⟩, fun hA => ⟨[_], rfl, ⟨_, rfl, ?_⟩, rfl⟩⟩
  · simp only [FNp_30, List.headD_cons, areaI, if_neg hA, IE.eval]
  · have h2 := areaI_bd x0 y0 x1 y1
    simp only [areaI, if_pos hA] at h2
    simp only [FNp_30, List.headD_cons, areaI, if_pos hA, IE.eval, IE.reval, ha, sel4, binI]
    unfold rightP at hA
    simp (disch := omega) only [wrap_i64]
    rw [show x1 - x0 + 1 = x1 + 1 - x0 by omega, show y1 - y0 + 1 = y1 + 1 - y0 by omega]
    exact wrap_i64 (by omega)

theorem knPc : ∀ env : Env, env.fn = FNp → KnOk Try.prog env [pcRight.ct] := knRightP

/-- the next tile's first place -/
theorem next_tile {x : Int} (h0 : 0 ≤ x) (h1 : x ≤ 2000) : binI .add .i64 (binI .sub .i64 x (binI .rem .i64 x 16)) 16 = 16 * (x / 16) + 16 := by
  simp only [binI, Int.tmod_eq_emod_of_nonneg h0]
  simp (disch := omega) only [wrap_i64]
  omega

def comP (ls : List (List Int)) (env : Env) (x0 y0 x1 y1 y : Int) (J : Nat) : Prop := ls = [[x0, y0, x1, y1]] ∧ rightP x0 y0 x1 y1 ∧ (env.row 0 = [x0, y0, x1, y1] ∧ vInt (env.val 1) = y) ∧ y = max y0 (16 * J) ∧ y ≤ 16 * J + 15 ∧ J ≤ 64 ∧ y0 / 16 ≤ J

def doneP (x0 y0 x1 y1 : Int) (J I : Nat) : List Int := allT x0 y0 x1 y1 J ++ rowT x0 y0 x1 y1 J I

def invP (ls : List (List Int)) (c : Nat) (env : Env) : Prop := ∃ x0 y0 x1 y1 y J, comP ls env x0 y0 x1 y1 y J ∧
  ((c = 0 ∧ (J : Int) = y0 / 16) ∨
   (c = 1 ∧ (J : Int) = y0 / 16 ∧ y ≤ y1 ∧ vInt (env.val 2) = x0) ∨
   (c = 2 ∧ env.row 3 = allT x0 y0 x1 y1 J ∧ ∃ n : Int, vInt (env.val 4) = n ∧ 4 * n = (allT x0 y0 x1 y1 J).length) ∨
   (c = 3 ∧ y ≤ y1 ∧ ∃ (x : Int) (I : Nat), vInt (env.val 2) = x ∧ x = max x0 (16 * I) ∧ x ≤ 16 * I + 15 ∧ I ≤ 64 ∧ env.row 3 = doneP x0 y0 x1 y1 J I ∧ ∃ n : Int, vInt (env.val 4) = n ∧ 4 * n = (doneP x0 y0 x1 y1 J I).length))

theorem doneP_len (x0 y0 x1 y1 : Int) (J I : Nat) (hJ : J ≤ 64) (hI : I ≤ 64) : (doneP x0 y0 x1 y1 J I).length ≤ 17000 := by
  have h1 := allT_len x0 y0 x1 y1 J
  have h2 := rowT_len x0 y0 x1 y1 J I
  unfold doneP; rw [List.length_append]; omega

theorem doneP_step {x0 y0 x1 y1 x y : Int} {J I : Nat} (hr : rightP x0 y0 x1 y1) (h1 : x = max x0 (16 * (I : Int))) (h2 : x ≤ x1) (h3 : x ≤ 16 * (I : Int) + 15) (h4 : y = max y0 (16 * (J : Int))) (h5 : y ≤ y1) (h6 : y ≤ 16 * (J : Int) + 15) :
    doneP x0 y0 x1 y1 J (I + 1) = doneP x0 y0 x1 y1 J I ++ [x, y, min x1 (16 * (I : Int) + 15), min y1 (16 * (J : Int) + 15)] := by
  have hr' := hr
  unfold rightP at hr'
  unfold doneP
  rw [rowT, tile_is hr h1 h2 h3 h4 h5 h6 (by omega) (by omega) (by omega) (by omega), List.append_assoc]

theorem doneP_end {x0 y0 x1 y1 x y : Int} {J I : Nat} (hI : I ≤ 64) (h1 : x = max x0 (16 * (I : Int))) (h2 : x1 < x) (h0 : x0 ≤ x1) : doneP x0 y0 x1 y1 J I = allT x0 y0 x1 y1 (J + 1) := by
  unfold doneP
  obtain ⟨k, hk⟩ : ∃ k, 64 = I + k := ⟨64 - I, by omega⟩
  rw [allT, hk, rowT_hi (by omega) k]

theorem doneP_lo {x0 y0 x1 y1 : Int} {J I : Nat} (hJ : 16 * (J : Int) ≤ y0) (hI : 16 * (I : Int) ≤ x0) : doneP x0 y0 x1 y1 J I = [] := by
  unfold doneP
  rw [allT_lo J hJ, rowT_lo I hI]; rfl

theorem allT_end {x0 y0 x1 y1 y : Int} {J : Nat} (hJ : J ≤ 64) (h1 : y = max y0 (16 * (J : Int))) (h2 : y1 < y) (h0 : y0 ≤ y1) : allT x0 y0 x1 y1 J = piecesL x0 y0 x1 y1 := by
  unfold piecesL
  obtain ⟨k, hk⟩ : ∃ k, 64 = J + k := ⟨64 - J, by omega⟩
  rw [hk, allT_hi (by omega) k]

theorem lss_min (a b : Int) : binI .lss .i64 a b = min a b := by show (if b < a then b else a) = min a b; omega

theorem pieces_ok : PcOk Try.prog FNp pcPieces := by
  refine pc_floyd (cs := cutsP) mix pcPieces knRightP (by decide) pieces_rounds pieces_entry invP (fun ls i env => ((5000 - vInt (env.val 1)).toNat, if i % 2 = 0 then 5000 else (4000 - vInt (env.val 2)).toNat))
    (fun ls i env h => by obtain ⟨_, _, _, _, _, _, _, h⟩ := h; simp; omega) ?_
  intro ls e0 hf hargs hrng hpre
  simp only [pcPieces, ArgsE, ArgE] at hargs
  obtain ⟨a, _, rfl, ⟨ha, hl⟩, rfl⟩ := hargs
  obtain ⟨x0, y0, x1, y1, rfl⟩ := len4 hl
  refine ⟨fun env hfn => ⟨⟨fun _ => by simp only [AsOk_nil], fun _ => by simp only [AsOk_nil], ?_, ?_, trivial⟩, ⟨?_, ?_, ?_, ?_, trivial⟩⟩, ?_⟩
  · rintro ⟨a0, b0, a1, b1, y, J, hcom, h | h | ⟨_, h4, n, h5, h6⟩ | h⟩
    · omega
    · omega
    · have := allT_len a0 b0 a1 b1 J
      have hJ := hcom.2.2.2.2.2.1
      simp only [asP, nonneg, atmB, AsOk_cons, AsOk_nil, BE.eval, cmpI, IE.eval, h5]
      simp; omega
    · omega
  · rintro ⟨a0, b0, a1, b1, y, J, hcom, h | h | h | ⟨_, hy, x, I, h1, h2, h3, hI, h4, n, h5, h6⟩⟩
    · omega
    · omega
    · omega
    · have := doneP_len a0 b0 a1 b1 J I hcom.2.2.2.2.2.1 hI
      simp only [asP, nonneg, atmB, AsOk_cons, AsOk_nil, BE.eval, cmpI, IE.eval, h5]
      simp; omega
  · rintro ⟨a0, b0, a1, b1, y, J, ⟨hl, hr, ⟨q0, q1⟩, k1, k2, k3, k4⟩, ⟨_, hJ⟩ | h | h | h⟩
    · simp only [List.cons.injEq, and_true] at hl
      obtain ⟨rfl, rfl, rfl, rfl⟩ := hl
      have hr' := hr
      unfold rightP at hr'
      simp only [allLeaves, AsOk_cons, AsOk_nil, BE.eval, cmpI, IE.eval, IE.reval, q0, q1, sel4, and_true, decide_eq_true_eq, decide_eq_false_iff_not]
      refine ⟨fun hA => absurd hA (by omega), fun hA => stepG_cut ⟨x0, y0, x1, y1, y, J, ⟨rfl, hr, ⟨?_, ?_⟩, k1, k2, k3, k4⟩, .inr (.inl ⟨rfl, hJ, by omega, ?_⟩)⟩ (Prod.lex_def.2 ?_)⟩
      all_goals simp [upd, lk_cons, lk_nil, IE.eval, IE.reval, q0, q1, sel4, vInt_int]
      all_goals omega
    · omega
    · omega
    · omega
  · rintro ⟨a0, b0, a1, b1, y, J, ⟨hl, hr, ⟨q0, q1⟩, k1, k2, k3, k4⟩, h | ⟨_, hJ, hy, q2⟩ | h | h⟩
    · omega
    · simp only [List.cons.injEq, and_true] at hl
      obtain ⟨rfl, rfl, rfl, rfl⟩ := hl
      have hr' := hr
      unfold rightP at hr'
      have t1 := next_tile (x := x0) (by omega) (by omega)
      have t2 := next_tile (x := y) (by omega) (by omega)
      have e1 : doneP x0 y0 x1 y1 J (x0 / 16).toNat = [] := doneP_lo (by omega) (by omega)
      have e2 := doneP_step (x := x0) (y := y) (J := J) (I := (x0 / 16).toNat) hr (by omega) (by omega) (by omega) k1 hy k2
      rw [e1, List.nil_append] at e2
      simp only [allLeaves, AsOk_cons, AsOk_nil, BE.eval, cmpI, IE.eval, IE.reval, q0, q1, q2, sel4, and_true, decide_eq_true_eq, decide_eq_false_iff_not]
      refine ⟨fun hA => absurd hA (by omega), fun hA => stepG_cut ⟨x0, y0, x1, y1, y, J, ⟨rfl, hr, ⟨?_, ?_⟩, k1, k2, k3, k4⟩, .inr (.inr (.inr ⟨rfl, hy, 16 * (x0 / 16) + 16, (x0 / 16).toNat + 1, ?_, by omega, by omega, by omega, ?_, 1, ?_, by rw [e2]; rfl⟩))⟩ (Prod.lex_def.2 ?_)⟩
      all_goals simp [upd, lk_cons, lk_nil, IE.eval, IE.reval, q0, q1, q2, sel4, vInt_int, t1, t2, e2, lss_min]
      · simp only [binI]
        simp (disch := omega) only [wrap_i64]
        omega
      · omega
    · omega
    · omega
  · rintro ⟨a0, b0, a1, b1, y, J, ⟨hl, hr, ⟨q0, q1⟩, k1, k2, k3, k4⟩, h | h | ⟨_, q3, n, q4, q5⟩ | h⟩
    · omega
    · omega
    · simp only [List.cons.injEq, and_true] at hl
      obtain ⟨rfl, rfl, rfl, rfl⟩ := hl
      have hr' := hr
      unfold rightP at hr'
      simp only [allLeaves, AsOk_cons, AsOk_nil, BE.eval, cmpI, IE.eval, IE.reval, q0, q1, q3, q4, sel4, and_true, decide_eq_true_eq, decide_eq_false_iff_not]
      refine ⟨fun hA => ?_, fun hA => stepG_cut ⟨x0, y0, x1, y1, y, J, ⟨rfl, hr, ⟨?_, ?_⟩, k1, k2, k3, k4⟩, .inr (.inr (.inr ⟨rfl, by omega, x0, (x0 / 16).toNat, ?_, by omega, by omega, by omega, ?_, n, ?_, ?_⟩))⟩ (Prod.lex_def.2 ?_)⟩
      · have e := allT_end (x0 := x0) (x1 := x1) k3 k1 (by omega : y1 < y) (by omega)
        refine ⟨[_], rfl, ⟨by decide, _, rfl, ?_, ?_⟩, rfl⟩
        · rw [subE_eval (by simp only [IE.reval, IE.eval, q3, q4]; simp; omega)]; simp only [IE.reval, IE.eval, q3, q4, subL, pcPieces, FNp_31, ← e]
          have : n.toNat * R4.length = (allT x0 y0 x1 y1 J).length := by simp; omega
          rw [this]; simp
        · refine ⟨by simp only [IE.eval, q4]; omega, fun B r cnt ks' h1 h2 => ?_⟩
          obtain rfl := Option.some.inj h1
          cases h2
          exact Int.le_refl _
      all_goals try simp [upd, lk_cons, lk_nil, IE.eval, IE.reval, q0, q1, q3, q4, sel4, vInt_int]
      · unfold doneP; rw [rowT_lo _ (by omega), List.append_nil]
      · unfold doneP; rw [rowT_lo _ (by omega), List.append_nil]; exact q5
      · omega
    · omega
  · rintro ⟨a0, b0, a1, b1, y, J, ⟨hl, hr, ⟨q0, q1⟩, k1, k2, k3, k4⟩, h | h | h | ⟨_, hy, x, I, q2, m1, m2, m3, q3, n, q4, q5⟩⟩
    · omega
    · omega
    · omega
    · simp only [List.cons.injEq, and_true] at hl
      obtain ⟨rfl, rfl, rfl, rfl⟩ := hl
      have hr' := hr
      unfold rightP at hr'
      have t1 := next_tile (x := x) (by omega) (by omega)
      have t2 := next_tile (x := y) (by omega) (by omega)
      simp only [allLeaves, AsOk_cons, AsOk_nil, BE.eval, cmpI, IE.eval, IE.reval, q0, q1, q2, q3, q4, sel4, and_true, decide_eq_true_eq, decide_eq_false_iff_not]
      refine ⟨fun hA => ?_, fun hA => ?_⟩
      · have e := doneP_end (y0 := y0) (y1 := y1) (y := y) (J := J) m3 m1 (by omega : x1 < x) (by omega)
        refine stepG_cut ⟨x0, y0, x1, y1, 16 * (y / 16) + 16, J + 1, ⟨rfl, hr, ⟨?_, ?_⟩, by omega, by omega, by omega, by omega⟩, .inr (.inr (.inl ⟨rfl, ?_, n, ?_, by rw [← e]; exact q5⟩))⟩ (Prod.lex_def.2 ?_)
        all_goals simp [upd, lk_cons, lk_nil, IE.eval, IE.reval, q0, q1, q2, q3, q4, sel4, vInt_int, t2, e]
        omega
      · have e := doneP_step (J := J) (I := I) hr m1 (by omega) m2 k1 hy k2
        refine stepG_cut ⟨x0, y0, x1, y1, y, J, ⟨rfl, hr, ⟨?_, ?_⟩, k1, k2, k3, k4⟩, .inr (.inr (.inr ⟨rfl, hy, 16 * (x / 16) + 16, I + 1, ?_, by omega, by omega, by omega, ?_, n + 1, ?_, ?_⟩))⟩ (Prod.lex_def.2 ?_)
        all_goals try simp [upd, lk_cons, lk_nil, IE.eval, IE.reval, q0, q1, q2, q3, q4, sel4, vInt_int, t1, t2, e, lss_min]
        · simp only [binI]
          simp (disch := omega) only [wrap_i64]
          omega
        · omega
        · omega
  · simp only [allLeaves, AsOk_cons, AsOk_nil, BE.eval, cmpI, IE.eval, IE.reval, IE.aeval, ha, hf, sel4, FNp_20, encB_zero, and_true, decide_eq_true_eq, decide_eq_false_iff_not, Classical.not_not]
    refine ⟨fun hA => ⟨[_], rfl, ⟨by decide, _, rfl, ?_, trivial⟩, rfl⟩, fun hA => ?_⟩
    · simp only [IE.reval, pcPieces, FNp_31, piecesL, allT_no hA]
    · have hr' := hA
      unfold rightP at hr'
      refine stepG_cut0 ⟨x0, y0, x1, y1, y0, (y0 / 16).toNat, ⟨rfl, hA, ⟨?_, ?_⟩, by omega, by omega, by omega, by omega⟩, .inl ⟨rfl, by omega⟩⟩
      all_goals simp [upd, lk_cons, lk_nil, IE.eval, IE.reval, ha, sel4, vInt_int]

end Go.Proofs.Ytagahpfinaaemaa
