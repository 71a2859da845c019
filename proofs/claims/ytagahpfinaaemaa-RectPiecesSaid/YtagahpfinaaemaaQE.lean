import Derived.Test.YtagahpfinaaemaaQD

namespace Go.Proofs.Ytagahpfinaaemaa

open Go Go.Sym

set_option linter.unusedVariables false

theorem chunk_at {l : List Int} {i : Nat} (h : 4 * (i + 1) ≤ l.length) : l.drop (4 * i) = selL l (i : Int) 4 0 :: selL l (i : Int) 4 1 :: selL l (i : Int) 4 2 :: selL l (i : Int) 4 3 :: l.drop (4 * (i + 1)) := by
  have g : ∀ f : Nat, f < 4 → selL l (i : Int) 4 f = l[4 * i + f]?.getD 0 := by
    intro f hf
    simp only [selL, Int.toNat_natCast, Nat.mul_comm i 4]
  have e : ∀ k, k < l.length → l.drop k = l[k]?.getD 0 :: l.drop (k + 1) := by
    intro k hk
    rw [List.drop_eq_getElem_cons hk, List.getElem?_eq_getElem hk]; rfl
  rw [g 0 (by omega), g 1 (by omega), g 2 (by omega), g 3 (by omega), e (4 * i) (by omega), e (4 * i + 1) (by omega), e (4 * i + 1 + 1) (by omega), e (4 * i + 1 + 1 + 1) (by omega)]
  rfl

def invS (ls : List (List Int)) (c : Nat) (env : Env) : Prop := c = 0 ∧ ∃ a b, ls = [a, b] ∧ env.row 0 = a ∧ env.row 1 = b ∧ a.length = b.length ∧ a.length ≤ 4194304 ∧ a.length % 4 = 0 ∧ ∃ n : Nat, vInt (env.val 2) = n ∧ 4 * n ≤ a.length ∧ a.take (4 * n) = b.take (4 * n)

theorem same_ok : PcOk Try.prog FNp pcSame := by
  refine pc_floyd (cs := [cutSame]) mix pcSame (fun _ _ => knOk_nil) (by decide) same_rounds same_entry
    invS (fun ls _ env => (0, 4194304 - (vInt (env.val 2)).toNat)) (fun ls i env h => by have := h.1; simp; omega) ?_
  intro ls e0 hf hargs hrng hpre
  simp only [pcSame, ArgsE, ArgE] at hargs
  obtain ⟨a, _, rfl, ⟨ha0, hla⟩, b, _, rfl, ⟨hb0, hlb⟩, rfl⟩ := hargs
  have ha := (hrng.1 (.sl R4) a rfl rfl).2
  simp only [measL] at ha
  have hr4 : R4.length = 4 := rfl
  rw [hr4] at ha hla hlb
  refine ⟨fun env hfn => ⟨⟨?_, trivial⟩, ⟨?_, trivial⟩⟩, ?_⟩
  · rintro ⟨_, a, b, hl, h0, h1, h2, h6, h7, n, h3, h4, h5⟩
    simp only [AsOk_cons, AsOk_nil, nonneg, BE.eval, cmpI, IE.eval, IE.reval, h0, h1, h3, h2]
    simp
  · rintro ⟨_, a', b', hl, h0, h1, h2, h6, h7, n, h3, h4, h5⟩
    simp only [List.cons.injEq, and_true] at hl
    obtain ⟨rfl, rfl⟩ := hl
    have hd : ((a.length / 4 : Nat) : Int) = ((a.length / 4 : Nat) : Int) := rfl
    simp only [allLeaves, AsOk_cons, AsOk_nil, BE.eval, cmpI, IE.eval, IE.reval, h0, h1, h3, and_true, decide_eq_true_eq, decide_eq_false_iff_not, Bool.not_eq_true']
    refine ⟨?_, ?_, ?_⟩
    · rintro ⟨e1, e2, e3, e4⟩
      have ca := chunk_at (l := a) (i := n) (by omega)
      have cb := chunk_at (l := b) (i := n) (by omega)
      simp only [List.cons.injEq, and_true] at e1
      obtain ⟨f0, f1, f2, f3⟩ := e1
      have e : a.take (4 * (n + 1)) = b.take (4 * (n + 1)) := by
        rw [show 4 * (n + 1) = 4 * n + 4 by omega, List.take_add, List.take_add, h5, ca, cb, f0, f1, f2, f3]; rfl
      refine stepG_cut ⟨rfl, a, b, rfl, ?_, ?_, h2, h6, h7, n + 1, ?_, by omega, e⟩ (Prod.lex_def.2 ?_)
      all_goals simp (disch := omega) [upd, lk_cons, lk_nil, IE.eval, IE.reval, binI, h0, h1, h3, vInt_int, wrap_i64]
      omega
    · rintro ⟨e1, e2, e3, e4⟩
      refine ⟨[_], rfl, ?_, rfl⟩
      have : ¬ a = b := by rintro rfl; exact e1 rfl
      simp only [FNp_32, pcSame, this, decide_false]; rfl
    · rintro ⟨e1, e2, e3⟩
      refine ⟨[_], rfl, ?_, rfl⟩
      have e : 4 * n = a.length := by omega
      rw [List.take_of_length_le (by omega), List.take_of_length_le (by omega)] at h5
      simp only [FNp_32, pcSame, h5, decide_true]; rfl
  · simp only [allLeaves, AsOk_cons, AsOk_nil, BE.eval, cmpI, IE.eval, IE.reval, IE.aeval, ha0, hb0, and_true, decide_eq_true_eq, decide_eq_false_iff_not]
    refine ⟨fun hA => stepG_cut0 ⟨rfl, a, b, rfl, ?_, ?_, by omega, by omega, hla, 0, ?_, by omega, rfl⟩, fun hA => ⟨[_], rfl, ?_, rfl⟩⟩
    · simp [upd, lk_cons, lk_nil, ha0]
    · simp [upd, lk_cons, lk_nil, hb0]
    · simp [upd, lk_cons, lk_nil, IE.eval, vInt_int]
    · have : ¬ a = b := by rintro rfl; exact hA rfl
      simp only [FNp_32, pcSame, this, decide_false]; rfl

theorem awake_says : saysTrue Try.prog 5000 11 = true := by kernel_rfl

theorem knPieces_ok : ∀ env : Env, env.fn = FNp → KnOk Try.prog env knPieces := fun env h =>
  knOk_cons (knOk_cons (knOk_cons (knOk_cons (knOk_cons (knOk_cons (knOk_cons knOk_nil (Pc.ct_ok h same_ok)) (Pc.ct_ok h piecesR_ok)) (Pc.ct_ok h pieces_ok)) (Pc.ct_ok h area_ok)) (Pc.ct_ok h has_p)) (Pc.ct_ok h right_p)) (ctTrue_ok mix awake_says)

theorem sumA_pos : ∀ (n : Nat) (l : List Int), l.length ≤ 4 * n → 0 ≤ sumA l ∧ ∀ x y, 0 ≤ cntH x y l
  | 0, l, h => by
    have : l = [] := List.eq_nil_of_length_eq_zero (by omega)
    subst this
    exact ⟨Int.le_refl _, fun x y => Int.le_refl _⟩
  | n + 1, l, h => by
    match l, h with
    | [], _ => exact ⟨Int.le_refl _, fun x y => Int.le_refl _⟩
    | [_], _ => exact ⟨Int.le_refl _, fun x y => Int.le_refl _⟩
    | [_, _], _ => exact ⟨Int.le_refl _, fun x y => Int.le_refl _⟩
    | [_, _, _], _ => exact ⟨Int.le_refl _, fun x y => Int.le_refl _⟩
    | a :: b :: c :: d :: r, h =>
      obtain ⟨h1, h2⟩ := sumA_pos n r (by simp at h; omega)
      have h3 := (areaI_bd a b c d).1
      refine ⟨by simp only [sumA]; omega, fun x y => ?_⟩
      have := h2 x y
      simp only [cntH]; split <;> omega

theorem quo16 {a : Int} (h0 : 0 ≤ a) (h1 : a ≤ 2000) : binI .quo .i64 a 16 = a / 16 := by
  simp only [binI, Int.tdiv_eq_ediv_of_nonneg h0]
  exact wrap_i64 (by omega)

def comL (ls : List (List Int)) (env : Env) (x0 y0 x1 y1 x y : Int) : Prop := ls = [[x0, y0, x1, y1], [x, y]] ∧ env.row 0 = [x0, y0, x1, y1] ∧ env.row 1 = [x, y]

def invL (ls : List (List Int)) (c : Nat) (env : Env) : Prop := ∃ x0 y0 x1 y1 x y, comL ls env x0 y0 x1 y1 x y ∧
  ((c = 0 ∧ vInt (env.val 4) = 0 ∧ vInt (env.val 5) = 0 ∧ vInt (env.val 6) = 0 ∧ piecesL x0 y0 x1 y1 = []) ∨
   (c = 1 ∧ ∃ L, piecesL x0 y0 x1 y1 = L ∧ env.row 2 = L ∧ ∃ m n : Nat, vInt (env.val 3) = m ∧ vInt (env.val 6) = n ∧ 4 * m = L.length ∧ m ≤ 4096 ∧ n ≤ m ∧
     vInt (env.val 4) + sumA (L.drop (4 * n)) = areaI x0 y0 x1 y1 ∧ vInt (env.val 5) + cntH x y (L.drop (4 * n)) = (if hasP x0 y0 x1 y1 x y then 1 else 0) ∧
     0 ≤ vInt (env.val 4) ∧ 0 ≤ vInt (env.val 5) ∧ allOne (L.drop (4 * n))))

theorem piecesL_len (x0 y0 x1 y1 : Int) : (piecesL x0 y0 x1 y1).length ≤ 16384 ∧ (piecesL x0 y0 x1 y1).length % 4 = 0 := by
  have := allT_len x0 y0 x1 y1 64
  exact ⟨by unfold piecesL; omega, this.2⟩

theorem pieces_all (x0 y0 x1 y1 : Int) : ∃ L, piecesL x0 y0 x1 y1 = L ∧ sumA L = areaI x0 y0 x1 y1 ∧ allOne L ∧ (∀ x y, cntH x y L = if hasP x0 y0 x1 y1 x y then 1 else 0) ∧ (L.length ≤ 16384 ∧ L.length % 4 = 0) := by
  have h := pieces_vals x0 y0 x1 y1
  have h4 := piecesL_len x0 y0 x1 y1
  generalize piecesL x0 y0 x1 y1 = L at h h4 ⊢
  exact ⟨L, rfl, h.1, h.2.1, h.2.2, h4⟩

theorem dec5000 {n m : Nat} (h : n < m) (hm : m ≤ 4096) : (5000 - ((n + 1 : Nat) : Int)).toNat < (5000 - (n : Int)).toNat := by omega

theorem plaw {w : World} {vs : Array Value} {ls : List (List Int)} (hargs : ArgsAre w vs.toList [.agg R4, .agg C2] ls) : Calls Try.prog 6 vs w fun e w' => e = .returned (.bool true) ∧ RowKit.Below w.heap.size w w' := by
  refine law_floyd (cs := cutsL) (FN := FNp) mix (fun _ => True) knPieces_ok (by decide) plaw_rounds plaw_entry invL (fun ls c env => (0, (5000 - vInt (env.val 6)).toNat)) (fun ls i env h => by obtain ⟨_, _, _, _, _, _, _, h⟩ := h; simp; omega) ?_ hargs trivial
  intro ls e0 hf hargs _
  simp only [ArgsE, ArgE] at hargs
  obtain ⟨a, _, rfl, ⟨ha, hl⟩, c, _, rfl, ⟨hc, hlc⟩, rfl⟩ := hargs
  obtain ⟨x0, y0, x1, y1, rfl⟩ := len4 hl
  obtain ⟨x, y, rfl⟩ := len2 hlc
  obtain ⟨K, hK, pv1, pv2, pv3, plen⟩ := pieces_all x0 y0 x1 y1
  refine ⟨fun env hfn => ⟨⟨?_, ?_, trivial⟩, ⟨?_, ?_, trivial⟩⟩, ?_⟩
  · rintro ⟨a0, b0, a1, b1, x', y', hcom, ⟨_, h1, h2, h3, _⟩ | h⟩
    · simp only [nonneg, AsOk_cons, AsOk_nil, BE.eval, cmpI, IE.eval, h3]; simp
    · omega
  · rintro ⟨a0, b0, a1, b1, x', y', hcom, h | ⟨_, L, hL, h0, m, n, h1, h2, h3, h4, h5, _⟩⟩
    · omega
    · simp only [nonneg, atmB, AsOk_cons, AsOk_nil, BE.eval, cmpI, IE.eval, h1, h2]; simp; omega
  · rintro ⟨a0, b0, a1, b1, x', y', ⟨hl, q0, q1⟩, ⟨_, h4, h5, h6, h7⟩ | h⟩
    · simp only [List.cons.injEq, and_true] at hl
      obtain ⟨⟨rfl, rfl, rfl, rfl⟩, rfl, rfl⟩ := hl
      rw [hK] at h7
      rw [h7] at pv1 pv3
      have p3 := pv3 x y
      have pa : areaI x0 y0 x1 y1 = 0 := pv1.symm
      have ph : ¬ hasP x0 y0 x1 y1 x y := by intro hh; rw [if_pos hh] at p3; cases p3
      simp only [allLeaves, AsOk_cons, AsOk_nil, BE.eval, cmpI, IE.eval, IE.reval, IE.aeval, hfn, q0, q1, h4, h5, h6, sel4, sel2, FNp_21, FNp_30, encB_zero, List.headD_cons, pa, ph, and_true, decide_eq_true_eq, decide_eq_false_iff_not, StepL]
      simp
    · omega
  · rintro ⟨a0, b0, a1, b1, x', y', ⟨hl, q0, q1⟩, h | ⟨_, L, hL, q2, m, n, q3, q6, k1, k2, k3, k4, k5, k6, k7, k8⟩⟩
    · omega
    · simp only [List.cons.injEq, and_true] at hl
      obtain ⟨⟨rfl, rfl, rfl, rfl⟩, rfl, rfl⟩ := hl
      obtain ⟨N, hN⟩ : ∃ N, vInt (env.val 4) = N := ⟨_, rfl⟩
      obtain ⟨C, hC⟩ : ∃ C, vInt (env.val 5) = C := ⟨_, rfl⟩
      rw [hN] at k4 k6
      rw [hC] at k5 k7
      obtain rfl : L = K := hL.symm.trans hK
      have hbd := areaI_bd x0 y0 x1 y1
      have hp := sumA_pos 4096 (L.drop (4 * n)) (by rw [List.length_drop]; omega)
      have hp2 := hp.2 x y
      by_cases hi : n < m
      · have ch := chunk_at (l := L) (i := n) (by omega)
        obtain ⟨p0, hp0⟩ : ∃ p, selL L (n : Int) 4 0 = p := ⟨_, rfl⟩
        obtain ⟨p1, hp1⟩ : ∃ p, selL L (n : Int) 4 1 = p := ⟨_, rfl⟩
        obtain ⟨r0, hr0⟩ : ∃ p, selL L (n : Int) 4 2 = p := ⟨_, rfl⟩
        obtain ⟨r1, hr1⟩ : ∃ p, selL L (n : Int) 4 3 = p := ⟨_, rfl⟩
        rw [hp0, hp1, hr0, hr1] at ch
        rw [ch] at k4 k5 k8
        simp only [sumA, cntH, allOne] at k4 k5 k8
        obtain ⟨⟨z1, z2, z3⟩, z4⟩ := k8
        have z1' := z1
        unfold rightP at z1'
        have hb := areaI_bd p0 p1 r0 r1
        have hq := sumA_pos 4096 (L.drop (4 * (n + 1))) (by rw [List.length_drop]; omega)
        have hq2 := hq.2 x y
        have t0 := quo16 (a := p0) (by omega) (by omega)
        have t1 := quo16 (a := p1) (by omega) (by omega)
        have t2 := quo16 (a := r0) (by omega) (by omega)
        have t3 := quo16 (a := r1) (by omega) (by omega)
        have hle : (if hasP x0 y0 x1 y1 x y then (1 : Int) else 0) ≤ 1 := by split <;> omega
        simp only [allLeaves, AsOk_cons, AsOk_nil, BE.eval, cmpI, IE.eval, IE.reval, IE.aeval, hfn, q0, q1, q2, q3, q6, hN, hC, sel4, sel2, hp0, hp1, hr0, hr1, t0, t1, t2, t3, z2, z3, FNp_21, FNp_30, encB_zero, List.headD_cons, and_true, decide_eq_true_eq, decide_eq_false_iff_not, Classical.not_not]
        have hi' : (n : Int) < m := by omega
        simp only [hi', not_true_eq_false, false_and, and_false, true_and, false_imp_iff, and_true]
        have go : ∀ (d : Int) (σ : Sb), (hd : d = if hasP p0 p1 r0 r1 x y then 1 else 0) → vInt ((upd env σ).val 4) = N + areaI p0 p1 r0 r1 → vInt ((upd env σ).val 5) = C + d → vInt ((upd env σ).val 6) = ((n + 1 : Nat) : Int) → vInt ((upd env σ).val 3) = m → (upd env σ).row 0 = [x0, y0, x1, y1] → (upd env σ).row 1 = [x, y] → (upd env σ).row 2 = L →
            StepL (invL [[x0, y0, x1, y1], [x, y]]) (fun c env => (0, (5000 - vInt (env.val 6)).toNat)) (some (0, (5000 - (n : Int)).toNat)) env (.cut 1 σ) := by
          intro d σ hd g4 g5 g6 g3 s0 s1 s2
          refine ⟨⟨x0, y0, x1, y1, x, y, ⟨rfl, s0, s1⟩, .inr ⟨rfl, L, hL, s2, m, n + 1, g3, g6, k1, k2, by omega, by rw [g4]; omega, by rw [g5, hd]; omega, by rw [g4]; omega, by rw [g5, hd]; split <;> omega, z4⟩⟩, fun M hM => ?_⟩
          cases hM
          refine Prod.lex_def.2 (.inr ⟨rfl, ?_⟩)
          show (5000 - vInt ((upd env σ).val 6)).toNat < _
          rw [g6]; exact dec5000 hi k2
        have hC1 : 0 ≤ C ∧ C ≤ 1 := by
          have : 0 ≤ (if hasP p0 p1 r0 r1 x y then (1 : Int) else 0) := by split <;> omega
          omega
        have hN1 : 0 ≤ N + areaI p0 p1 r0 r1 ∧ N + areaI p0 p1 r0 r1 ≤ 1048576 := by omega
        have w4 : IntKind.i64.wrap (N + areaI p0 p1 r0 r1) = N + areaI p0 p1 r0 r1 := wrap_i64 (by omega)
        have w5 : IntKind.i64.wrap (C + 1) = C + 1 := wrap_i64 (by omega)
        have w6 : IntKind.i64.wrap ((n : Int) + 1) = n + 1 := wrap_i64 (by omega)
        refine ⟨fun hA => go 0 _ (by rw [if_neg hA.1]) ?_ ?_ ?_ ?_ ?_ ?_ ?_, fun hA => go 1 _ (by rw [if_pos hA.1]) ?_ ?_ ?_ ?_ ?_ ?_ ?_⟩
        all_goals simp [upd, lk_cons, lk_nil, IE.eval, IE.reval, IE.aeval, hfn, q0, q1, q2, q3, q6, hN, hC, hp0, hp1, hr0, hr1, FNp_30, binI, w4, w5, w6, vInt_int]
      · have hi' : ¬ ((n : Int) < m) := by omega
        have hnm : n = m := by omega
        have hd : L.drop (4 * n) = [] := List.drop_eq_nil_of_le (by omega)
        rw [hd] at k4 k5
        simp only [sumA, cntH, Int.add_zero] at k4 k5
        simp only [allLeaves, AsOk_cons, AsOk_nil, BE.eval, cmpI, IE.eval, IE.reval, IE.aeval, hfn, q0, q1, q2, q3, q6, hN, hC, sel4, sel2, FNp_21, FNp_30, encB_zero, List.headD_cons, and_true, decide_eq_true_eq, decide_eq_false_iff_not, Classical.not_not]
        simp only [hi', k4, k5, not_true_eq_false, false_and, and_false, true_and, false_imp_iff, and_true]
        by_cases hh : hasP x0 y0 x1 y1 x y
        · simp [hh, StepL]
        · simp [hh, StepL, BE.eval, cmpI, IE.eval, hC, k5]
  · simp only [allLeaves, AsOk_cons, AsOk_nil, BE.eval, cmpI, IE.eval, IE.reval, IE.aeval, ha, hc, hf, sel4, sel2, FNp_31, hK, FNp_32, encB_zero, decide_true, and_true, decide_eq_true_eq, decide_eq_false_iff_not, Bool.true_eq_false, false_and, false_imp_iff, not_false_eq_true, true_and]
    refine ⟨fun hA => absurd hA.1 (by omega), fun hA => ?_, fun hA => ?_⟩
    · have p3 := pv3 x y
      refine ⟨⟨x0, y0, x1, y1, x, y, ⟨rfl, ?_, ?_⟩, .inr ⟨rfl, K, hK, ?_, K.length / 4, 0, ?_, ?_, by omega, by omega, by omega, ?_, ?_, ?_, ?_, pv2⟩⟩, fun M hM => by cases hM⟩
      all_goals simp [upd, lk_cons, lk_nil, IE.eval, IE.reval, IE.aeval, ha, hc, hf, sel4, sel2, vInt_int, FNp_31, hK, pv1, p3]
    · refine ⟨⟨x0, y0, x1, y1, x, y, ⟨rfl, ?_, ?_⟩, .inl ⟨rfl, ?_, ?_, ?_, by rw [hK]; exact List.eq_nil_of_length_eq_zero (by omega)⟩⟩, fun M hM => by cases hM⟩
      all_goals simp [upd, lk_cons, lk_nil, IE.eval, IE.reval, IE.aeval, ha, hc, hf, sel4, sel2, vInt_int]

theorem vals4 (a b c d : Int) : vals R4 [a, b, c, d] = [.int .i64 a, .int .i64 b, .int .i64 c, .int .i64 d] := by simp [vals, kindAt]

theorem vals2 (a b : Int) : vals C2 [a, b] = [.int .i64 a, .int .i64 b] := by simp [vals, kindAt]

end Go.Proofs.Ytagahpfinaaemaa
