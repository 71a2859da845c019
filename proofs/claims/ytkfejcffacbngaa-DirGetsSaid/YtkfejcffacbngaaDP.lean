import Derived.Test.YtkfejcffacbngaaDO

namespace Go.Proofs.Ytkfejcffacbngaa

open Go Go.Sym

set_option linter.unusedVariables false

theorem h_ok {c : Pc} (h : PcOk Try.prog FNf c) (h1 : c.id + c.rks.length ≤ 77) (h2 : ∀ i ∈ c.pre, i < 77) : PcOk Try.prog FNh c := by
  have key : ∀ i, i < 77 → FNh i = FNf i := by
    intro i hi
    funext l
    unfold FNh
    split <;> first | omega | rfl
  exact h.cong (fun i hi => key _ (by omega)) (fun i hi => key _ (h2 i hi))

theorem FNh_77 (b : List Int) : FNh 77 [b] = encB (decide (bytesOk b)) := rfl
theorem FNh_78 (b : List Int) (a n : Int) : FNh 78 [b, [a], [n]] = encB (decide (bytesOk b ∧ (n = 2 ∨ n = 4))) := rfl
theorem FNh_79 (a b : List Int) : FNh 79 [a, b] = encB (decide (a = b)) := rfl
theorem FNh_64 (b : List Int) (a n : Int) : FNh 64 [b, [a], [n]] = [if gotC b a n = 0 then numU b a n.toNat else 0] := rfl
theorem FNh_65 (b : List Int) (a n : Int) : FNh 65 [b, [a], [n]] = [if gotC b a n = 0 then a + n else 0] := rfl
theorem FNh_66 (b : List Int) (a n : Int) : FNh 66 [b, [a], [n]] = [gotC b a n] := rfl

theorem chunk2_at {l : List Int} {i : Nat} (h : 2 * (i + 1) ≤ l.length) : l.drop (2 * i) = selL l (i : Int) 2 0 :: selL l (i : Int) 2 1 :: l.drop (2 * (i + 1)) := by
  have g : ∀ f : Nat, selL l (i : Int) 2 f = l[2 * i + f]?.getD 0 := by
    intro f
    simp only [selL, Int.toNat_natCast, Nat.mul_comm i 2]
  have e : ∀ k, k < l.length → l.drop k = l[k]?.getD 0 :: l.drop (k + 1) := by
    intro k hk
    rw [List.drop_eq_getElem_cons hk, List.getElem?_eq_getElem hk]; rfl
  rw [g 0, g 1, e (2 * i) (by omega), e (2 * i + 1) (by omega)]
  rfl

def invS (ls : List (List Int)) (c : Nat) (env : Env) : Prop := c = 0 ∧ ∃ a b, ls = [a, b] ∧ env.row 0 = a ∧ env.row 1 = b ∧ a.length = b.length ∧ a.length ≤ 4194304 ∧ a.length % 2 = 0 ∧ ∃ n : Nat, vInt (env.val 2) = n ∧ 2 * n ≤ a.length ∧ a.take (2 * n) = b.take (2 * n)

theorem sameE_ok : PcOk Try.prog FNh pcSameE := by
  refine pc_floyd (cs := [cutSameE]) mix pcSameE (fun _ _ => knOk_nil) (by decide) sameE_rounds sameE_entry
    invS (fun ls _ env => (0, 4194304 - (vInt (env.val 2)).toNat)) (fun ls i env h => by have := h.1; simp; omega) ?_
  intro ls e0 hf hargs hrng hpre
  simp only [pcSameE, ArgsE, ArgE] at hargs
  obtain ⟨a, _, rfl, ⟨ha0, hla⟩, b, _, rfl, ⟨hb0, hlb⟩, rfl⟩ := hargs
  have ha := (hrng.1 (.sl C2) a rfl rfl).2
  simp only [measL] at ha
  have hr4 : C2.length = 2 := rfl
  rw [hr4] at ha hla hlb
  refine ⟨fun env hfn => ⟨⟨?_, trivial⟩, ⟨?_, trivial⟩⟩, ?_⟩
  · rintro ⟨_, a, b, hl, h0, h1, h2, h6, h7, n, h3, h4, h5⟩
    simp only [AsOk_cons, AsOk_nil, nonneg, BE.eval, cmpI, IE.eval, IE.reval, h0, h1, h3, h2]
    simp
  · rintro ⟨_, a', b', hl, h0, h1, h2, h6, h7, n, h3, h4, h5⟩
    simp only [List.cons.injEq, and_true] at hl
    obtain ⟨rfl, rfl⟩ := hl
    simp only [allLeaves, AsOk_cons, AsOk_nil, BE.eval, cmpI, IE.eval, IE.reval, h0, h1, h3, and_true, decide_eq_true_eq, decide_eq_false_iff_not, Bool.not_eq_true']
    refine ⟨?_, ?_, ?_⟩
    · rintro ⟨e1, e2, e3, e4⟩
      have ca := chunk2_at (l := a) (i := n) (by omega)
      have cb := chunk2_at (l := b) (i := n) (by omega)
      simp only [List.cons.injEq, and_true] at e1
      obtain ⟨f0, f1⟩ := e1
      have e : a.take (2 * (n + 1)) = b.take (2 * (n + 1)) := by
        rw [show 2 * (n + 1) = 2 * n + 2 by omega, List.take_add, List.take_add, h5, ca, cb, f0, f1]; rfl
      refine stepG_cut ⟨rfl, a, b, rfl, ?_, ?_, h2, h6, h7, n + 1, ?_, by omega, e⟩ (Prod.lex_def.2 ?_)
      all_goals simp (disch := omega) [upd, lk_cons, lk_nil, IE.eval, binI, h0, h1, h3, vInt_int, wrap_i64]
      omega
    · rintro ⟨e1, e2, e3, e4⟩
      refine ⟨[_], rfl, ?_, rfl⟩
      have : ¬ a = b := by rintro rfl; exact e1 rfl
      simp only [FNh_79, pcSameE, this, decide_false]; rfl
    · rintro ⟨e1, e2, e3⟩
      refine ⟨[_], rfl, ?_, rfl⟩
      rw [List.take_of_length_le (by omega), List.take_of_length_le (by omega)] at h5
      simp only [FNh_79, pcSameE, h5, decide_true]; rfl
  · simp only [allLeaves, AsOk_cons, AsOk_nil, BE.eval, cmpI, IE.eval, IE.reval, ha0, hb0, and_true, decide_eq_true_eq, decide_eq_false_iff_not]
    refine ⟨fun hA => stepG_cut0 ⟨rfl, a, b, rfl, ?_, ?_, by omega, by omega, hla, 0, ?_, by omega, rfl⟩, fun hA => ⟨[_], rfl, ?_, rfl⟩⟩
    · simp [upd, lk_cons, lk_nil, ha0]
    · simp [upd, lk_cons, lk_nil, hb0]
    · simp [upd, lk_cons, lk_nil, IE.eval, vInt_int]
    · have : ¬ a = b := by rintro rfl; exact hA rfl
      simp only [FNh_79, pcSameE, this, decide_false]; rfl

def invGotR (ls : List (List Int)) (c : Nat) (env : Env) : Prop := c = 0 ∧ ∃ b n, ∃ p : Nat, ls = [b, [(p : Int)], [n]] ∧ bytesOk b ∧ (n = 2 ∨ n = 4) ∧ gotC b p n = 0 ∧ (b.length : Int) ≤ 4294967296 ∧ env.row 0 = b ∧ vInt (env.val 1) = p ∧ vInt (env.val 2) = n ∧ ∃ j : Nat, vInt (env.val 4) = (j : Int) - 1 ∧ (j : Int) ≤ n ∧ vInt (env.val 3) = valL ((b.drop (p + j)).take (n.toNat - j))

theorem pow256 {k : Nat} (h : k ≤ 4) : (256 : Int) ^ k ≤ 4294967296 := by
  have : ∀ k : Nat, k ≤ 4 → (256 : Int) ^ k ≤ 4294967296 := by decide
  exact this k h

theorem gotR_ok : PcOk Try.prog FNh pcGotR := by
  refine pc_floyd_as (cs := cutGotR) (aa := asB) (base := 3) mix pcGotR (fun _ _ => knOk_nil) (Nat.le_refl 3) gotR_rounds gotR_entry invGotR (fun ls _ env => (0, (50 + vInt (env.val 4)).toNat)) (fun ls i env h => by have := h.1; simp; omega) ?_
  intro ls e0 hf hargs hrng hpre
  simp only [pcGotR, ArgsE, ArgE] at hargs
  obtain ⟨b, _, rfl, ⟨hb, _⟩, a', _, rfl, ha, n', _, rfl, hn, rfl⟩ := hargs
  have hlen := (hrng.1 (.sl [.u8]) b rfl rfl).2
  simp only [measL, List.length_singleton, Nat.div_one] at hlen
  obtain ⟨a, hav⟩ : ∃ z, vInt (e0.val 1) = z := ⟨_, rfl⟩
  obtain ⟨n, hnv⟩ : ∃ z, vInt (e0.val 2) = z := ⟨_, rfl⟩
  simp only [Nat.zero_add, Nat.reduceAdd, hav, hnv] at ha hn
  subst ha; subst hn
  have hpre' : bytesOk b ∧ (n = 2 ∨ n = 4) := by
    have := hpre.1
    simp only [FNh_78, encB_headD] at this
    split at this
    · rename_i hq; exact of_decide_eq_true hq
    · omega
  obtain ⟨hby, hn24⟩ := hpre'
  have ret : ∀ (env : Env) (code : Int) (o : Option (Nat × Nat)) (M : Mem), gotC b a n = code → code ≠ 0 → StepG FNh [b, [a], [n]] pcGotR.id pcGotR.rks (invGotR [b, [a], [n]]) (fun _ env => (0, (50 + vInt (env.val 4)).toNat)) o env (.ret (.tuple [.int .u64 0, .int .i64 0, .int .i64 code]) M) := by
    intro env code o M h1 h2
    refine ⟨[_, _, _], rfl, ⟨_, rfl, ?_⟩, ⟨_, rfl, ?_⟩, ⟨_, rfl, ?_⟩, rfl⟩
    · simp only [IE.eval, pcGotR, FNh_64, h1, if_neg h2, List.headD_cons]
    · simp only [IE.eval, pcGotR, Nat.reduceAdd, FNh_65, h1, if_neg h2, List.headD_cons]
    · simp only [IE.eval, pcGotR, Nat.reduceAdd, FNh_66, h1, List.headD_cons]
  refine ⟨?_, fun env hfn => ⟨⟨?_, trivial⟩, ⟨?_, trivial⟩⟩, ?_⟩
  · simp only [asB, atmB, AsOk_cons, AsOk_nil, BE.eval, cmpI, IE.eval, IE.reval, hb, Nat.div_one]
    simp; omega
  · rintro ⟨_, b', n', p, hl, hby', hn', hc, hbl, q0, q1, q2, j, q4, hj, q3⟩
    simp only [asB, atmB, AsOk_cons, AsOk_nil, BE.eval, cmpI, IE.eval, IE.reval, q0, Nat.div_one]
    simp; omega
  · rintro ⟨_, b', n', p, hl, hby', hn', hc, hbl, q0, q1, q2, j, q4, hj, q3⟩
    simp only [List.cons.injEq, and_true] at hl
    obtain ⟨rfl, rfl, rfl⟩ := hl
    have hz := gotC_zero.1 hc
    obtain ⟨u, hu⟩ : ∃ u, valL ((b.drop (p + j)).take (n.toNat - j)) = u := ⟨_, rfl⟩
    rw [hu] at q3
    cases j with
    | zero =>
      have e : binI .add .i64 (p : Int) n = p + n := wrap_i64 (by omega)
      have q4' : vInt (env.val 4) = -1 := by rw [q4]; rfl
      rw [Nat.add_zero, Nat.sub_zero] at hu
      have hv := numU_val hby (p := p) hn24 (by omega)
      simp only [allLeaves, AsOk_cons, AsOk_nil, BE.eval, cmpI, IE.eval, IE.reval, q0, q1, q4', Nat.div_one, and_true, decide_eq_true_eq, decide_eq_false_iff_not]
      refine ⟨fun hA => ⟨[_, _, _], rfl, ⟨_, rfl, ?_⟩, ⟨_, rfl, ?_⟩, ⟨_, rfl, ?_⟩, rfl⟩, fun hA => absurd hA.2.1 (by omega), fun hA => absurd hA.2.2.1 (by omega), fun hA => absurd hA.2.2.1 (by omega)⟩
      · simp only [IE.eval, pcGotR, FNh_64, hc, if_true, List.headD_cons, q3, hv, hu]
      · simp only [IE.eval, pcGotR, Nat.reduceAdd, FNh_65, hc, if_true, List.headD_cons, q1, q2, e]
      · simp only [IE.eval, pcGotR, Nat.reduceAdd, FNh_66, hc, List.headD_cons]
    | succ j =>
      have q4' : vInt (env.val 4) = j := by rw [q4]; omega
      have e : binI .add .i64 (p : Int) (j : Int) = ((p + j : Nat) : Int) := by simp only [binI]; rw [wrap_i64 (by omega)]; omega
      have hs : selL b ((p + j : Nat) : Int) 1 0 = b[p + j]'(by omega) := by
        simp [selL]; rw [List.getElem?_eq_getElem (by omega)]; rfl
      have hbt := byte_at hby (p := p + j) (by omega)
      have ub := valL_bd ((b.drop (p + (j + 1))).take (n.toNat - (j + 1))) (fun x hx => hby x (List.mem_of_mem_drop (List.mem_of_mem_take hx)))
      have hp4 := pow256 (k := ((b.drop (p + (j + 1))).take (n.toNat - (j + 1))).length) (by simp; omega)
      rw [hu] at ub
      have e1 : binI .sub .i64 (j : Int) 1 = (j : Int) - 1 := wrap_i64 (by omega)
      have e2 : binI .mul .u64 u 256 = u * 256 := wrap_u64 (by omega)
      have e3 : IntKind.u64.wrap (b[p + j]'(by omega)) = b[p + j]'(by omega) := wrap_u64 (by omega)
      have e4 : binI .add .u64 (u * 256) (b[p + j]'(by omega)) = u * 256 + b[p + j]'(by omega) := wrap_u64 (by omega)
      have hval : u * 256 + b[p + j]'(by omega) = valL ((b.drop (p + j)).take (n.toNat - j)) := by
        rw [List.drop_eq_getElem_cons (by omega : p + j < b.length), show n.toNat - j = (n.toNat - (j + 1)) + 1 by omega, List.take_succ_cons, valL, Nat.add_assoc, hu]; omega
      simp only [allLeaves, AsOk_cons, AsOk_nil, BE.eval, cmpI, IE.eval, IE.reval, q0, q1, q4', e, Nat.div_one, and_true, decide_eq_true_eq, decide_eq_false_iff_not]
      refine ⟨fun hA => absurd hA.1 (by omega), fun hA => absurd hA.1 (by omega), fun hA => stepG_cut ⟨rfl, b, n, p, rfl, hby, hn24, hc, hbl, ?_, ?_, ?_, j, ?_, by omega, ?_⟩ (Prod.lex_def.2 (.inr ⟨rfl, ?_⟩)), fun hA => absurd hA.1 (by omega)⟩
      · simp [upd, lk_nil, q0]
      · simp [upd, lk_cons, lk_nil, q1]
      · simp [upd, lk_cons, lk_nil, q2]
      · simp [upd, lk_cons, lk_nil, IE.eval, q4', e1, vInt_int]
      · simp only [upd, lk_cons, lk_nil, Nat.reduceEqDiff, if_false, if_true, IE.eval, IE.reval, q0, q1, q3, q4', e, hs, e2, e3, e4, vInt_int, hval]
      · simp only [upd, lk_cons, lk_nil, Nat.reduceEqDiff, if_false, if_true, IE.eval, q4', e1, vInt_int]; omega
  · have es : 0 ≤ a ∧ a ≤ (b.length : Int) → binI .sub .i64 (b.length : Int) a = b.length - a := fun h => wrap_i64 (by omega)
    simp only [allLeaves, AsOk_cons, AsOk_nil, BE.eval, cmpI, IE.eval, IE.reval, hb, hav, hnv, Nat.div_one, and_true, decide_eq_true_eq, decide_eq_false_iff_not]
    have no11 : ¬ (1 ≤ n ∧ n ≤ 8 ∧ 0 ≤ a ∧ a ≤ (b.length : Int)) → gotC b a n = 11 := fun h => by rw [gotC, if_neg h]
    refine ⟨fun hA => ret e0 11 _ _ (no11 (by omega)) (by decide), fun hA => ret e0 11 _ _ (no11 (by omega)) (by decide), fun hA => ret e0 11 _ _ (no11 (by omega)) (by decide), fun hA => ret e0 11 _ _ (no11 (by omega)) (by decide), fun hA => ?_, fun hA => ?_⟩
    · have e := es (by omega)
      rw [e] at hA
      exact ret e0 14 _ _ (by rw [gotC, if_pos (by omega), if_pos (by omega)]) (by decide)
    · have e := es (by omega)
      rw [e] at hA
      obtain ⟨p, rfl⟩ : ∃ p : Nat, a = p := ⟨a.toNat, by omega⟩
      have en : binI .sub .i64 n 1 = n - 1 := wrap_i64 (by omega)
      refine stepG_cut0 ⟨rfl, b, n, p, rfl, hby, hn24, gotC_zero.2 (by omega), by omega, ?_, ?_, ?_, n.toNat, ?_, by omega, ?_⟩
      · simp [upd, lk_nil, hb]
      · simp [upd, lk_cons, lk_nil, hav]
      · simp [upd, lk_cons, lk_nil, hnv]
      · simp only [upd, lk_cons, lk_nil, Nat.reduceEqDiff, if_false, if_true, IE.eval, hnv, en, vInt_int]; omega
      · simp [upd, lk_cons, lk_nil, IE.eval, vInt_int, valL]

end Go.Proofs.Ytkfejcffacbngaa
