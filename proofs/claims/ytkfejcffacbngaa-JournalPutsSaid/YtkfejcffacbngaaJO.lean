import Derived.Test.YtkfejcffacbngaaJN

namespace Go.Proofs.Ytkfejcffacbngaa.J

open Go Go.Sym

set_option linter.unusedVariables false

theorem or64_rng (x y : Int) : 0 ≤ binI .or .u64 x y ∧ binI .or .u64 x y < 18446744073709551616 := by
  have h : (BitVec.ofInt 64 x ||| BitVec.ofInt 64 y).toNat < 2 ^ 64 := (BitVec.ofInt 64 x ||| BitVec.ofInt 64 y).isLt
  show 0 ≤ IntKind.u64.wrap ((BitVec.ofInt 64 x ||| BitVec.ofInt 64 y).toNat : Int) ∧ IntKind.u64.wrap ((BitVec.ofInt 64 x ||| BitVec.ofInt 64 y).toNat : Int) < 18446744073709551616
  rw [wrap_u64 (by omega)]
  omega

theorem lebU_rng (b : List Int) (a : Int) (k : Nat) : 0 ≤ lebU b a k ∧ lebU b a k < 18446744073709551616 := by
  cases k with
  | zero => simp [lebU]
  | succ k => exact or64_rng _ _

theorem lebC_ok (b : List Int) (a : Int) : ∀ f k, (lebC b a f k).1 = 0 → k < (lebC b a f k).2 ∧ (lebC b a f k).2 ≤ k + f ∧ a + (lebC b a f k).2 ≤ b.length := by
  intro f
  induction f with
  | zero => intro k h; simp [lebC] at h
  | succ f ih =>
    intro k h
    rw [lebC] at h ⊢
    split at h
    · cases h
    · rename_i h1
      split at h
      · cases h
      · rename_i h2
        rw [if_neg h1, if_neg h2]
        split at h
        · rename_i h3; rw [if_pos h3]; simp only; omega
        · rename_i h3; rw [if_neg h3]; have := ih (k + 1) h; omega

theorem lebR_ok {b : List Int} {a : Int} (h : (lebR b a).1 = 0) : 0 ≤ a ∧ 1 ≤ (lebR b a).2 ∧ (lebR b a).2 ≤ 10 ∧ a + (lebR b a).2 ≤ b.length := by
  unfold lebR at h ⊢
  split at h
  · rename_i h1
    rw [if_pos h1]
    have := lebC_ok b a 10 0 h
    omega
  · cases h

theorem knG_ok : ∀ env : Env, env.fn = FNj → KnOk Try.prog env knG := fun env h => knOk_cons (knOk_cons knOk_nil (Pc.ct_ok h open_j)) (Pc.ct_ok h lebG_j)

theorem jget_ok : PcOk Try.prog FNj pcJGet := by
  intro w vs ls hargs hrng hpre
  have h0 := argsE_of (FN := FNj) hargs pcJGet.aks 0 rfl
  simp only [pcJGet, ArgsE, ArgE, List.drop_zero] at h0
  obtain ⟨b, _, rfl, ⟨_, _⟩, l, _, rfl, hl, rfl⟩ := h0
  obtain ⟨a, ha⟩ : ∃ a, l = [a] := ⟨_, hl⟩
  subst ha
  clear hl
  have hlen := (hrng.1 (.sl [.u8]) b rfl rfl).2
  simp only [measL, List.length_singleton, Nat.div_one] at hlen
  have args : ∀ e0 : Env, ArgsE e0 0 pcJGet.aks [b, [a]] → e0.row 0 = b ∧ vInt (e0.val 1) = a := by
    intro e0 h
    simp only [pcJGet, ArgsE, ArgE, List.cons.injEq] at h
    obtain ⟨_, _, ⟨rfl, rfl⟩, ⟨h1, _⟩, _, _, ⟨rfl, rfl⟩, h2, _⟩ := h
    exact ⟨h1, by simpa using h2.symm⟩
  by_cases h85 : (lebR b a).1 = 0
  · obtain ⟨r1, r2, r3, r4⟩ := lebR_ok h85
    have rN := lebU_rng b a (lebR b a).2
    have f83 : FNj 83 [b, [a]] = [gotN b a] := by rw [FNj_83, if_pos h85, gotN]
    have f84 : FNj 84 [b, [a]] = [gotP b a] := by rw [FNj_84, if_pos h85, gotP]
    have f85 : FNj 85 [b, [a]] = [0] := by rw [FNj_85, h85]
    have hp : a + (lebR b a).2 = gotP b a := rfl
    have hx : gotX b a = subL b (gotP b a) (gotP b a + gotN b a + 3) 1 := rfl
    have hC : jC b a = if gotN b a = 0 ∨ 1048577 < gotN b a then 13 else if (b.length : Int) < gotP b a + gotN b a + 3 then 14 else openC (gotX b a) := by rw [jC, if_neg (by rw [h85]; simp)]
    have hM : jM b a = if jC b a = 0 then openM (gotX b a) else [] := rfl
    have hE : jE b a = if jC b a = 0 then gotP b a + gotN b a + 3 else 0 := rfl
    obtain ⟨X, hX⟩ : ∃ x, gotX b a = x := ⟨_, rfl⟩
    rw [hX] at hC hM hx
    rw [show lebU b a (lebR b a).2 = gotN b a from rfl] at rN
    generalize gotN b a = N at *
    generalize gotP b a = P at *
    by_cases hz : N = 0
    · rw [if_pos (.inl hz)] at hC
      rw [if_neg (by rw [hC]; decide)] at hM hE
      refine pc_inst mix pcJGet knG_ok (by decide) jget2 hargs fun e0 hf hq => ?_
      obtain ⟨q0, q1⟩ := args e0 hq
      refine ⟨?_, ⟨fun _ => ⟨[_, _, _], rfl, ⟨by decide, _, rfl, ?_, trivial⟩, ⟨_, rfl, ?_⟩, ⟨_, rfl, ?_⟩, rfl⟩, trivial⟩⟩
      · simp only [asG2, eq0, n83, c85, aBA, atmB, AsOk_cons, AsOk_nil, BE.eval, cmpI, IE.eval, IE.reval, IE.aeval, hf, q0, q1, f83, f85, List.headD_cons, hz, Nat.div_one]
        simp; omega
      · simp only [IE.reval, pcJGet, FNj_95, hM]
      · simp only [IE.eval, pcJGet, Nat.reduceAdd, FNj_96, hE, List.headD_cons]
      · simp only [IE.eval, pcJGet, Nat.reduceAdd, FNj_97, hC, List.headD_cons]
    by_cases hb : 1048577 < N
    · rw [if_pos (.inr hb)] at hC
      rw [if_neg (by rw [hC]; decide)] at hM hE
      refine pc_inst mix pcJGet knG_ok (by decide) jget3 hargs fun e0 hf hq => ?_
      obtain ⟨q0, q1⟩ := args e0 hq
      refine ⟨?_, ⟨fun _ => ⟨[_, _, _], rfl, ⟨by decide, _, rfl, ?_, trivial⟩, ⟨_, rfl, ?_⟩, ⟨_, rfl, ?_⟩, rfl⟩, trivial⟩⟩
      · simp only [asG3, lt, eq0, n83, c85, aBA, atmB, AsOk_cons, AsOk_nil, BE.eval, cmpI, IE.eval, IE.reval, IE.aeval, hf, q0, q1, f83, f85, List.headD_cons, Nat.div_one]
        simp; omega
      · simp only [IE.reval, pcJGet, FNj_95, hM]
      · simp only [IE.eval, pcJGet, Nat.reduceAdd, FNj_96, hE, List.headD_cons]
      · simp only [IE.eval, pcJGet, Nat.reduceAdd, FNj_97, hC, List.headD_cons]
    rw [if_neg (by omega)] at hC
    have e1 : binI .add .i64 (binI .add .i64 P (IntKind.i64.wrap (binI .sub .u64 N 1))) 4 = P + N + 3 := by
      have t1 : binI .sub .u64 N 1 = N - 1 := wrap_u64 (by omega)
      have t2 : IntKind.i64.wrap (N - 1) = N - 1 := wrap_i64 (by omega)
      have t3 : binI .add .i64 P (N - 1) = P + (N - 1) := wrap_i64 (by omega)
      have t4 : binI .add .i64 (P + (N - 1)) 4 = P + (N - 1) + 4 := wrap_i64 (by omega)
      rw [t1, t2, t3, t4]; omega
    by_cases hs : (b.length : Int) < P + N + 3
    · rw [if_pos hs] at hC
      rw [if_neg (by rw [hC]; decide)] at hM hE
      refine pc_inst mix pcJGet knG_ok (by decide) jget4 hargs fun e0 hf hq => ?_
      obtain ⟨q0, q1⟩ := args e0 hq
      refine ⟨?_, ⟨fun _ => ⟨[_, _, _], rfl, ⟨by decide, _, rfl, ?_, trivial⟩, ⟨_, rfl, ?_⟩, ⟨_, rfl, ?_⟩, rfl⟩, trivial⟩⟩
      · simp only [asG4, lt, eq0, endE, n83, p84, c85, aBA, atmB, AsOk_cons, AsOk_nil, BE.eval, cmpI, IE.eval, IE.reval, IE.aeval, hf, q0, q1, f83, f84, f85, e1, List.headD_cons, Nat.div_one]
        simp; omega
      · simp only [IE.reval, pcJGet, FNj_95, hM]
      · simp only [IE.eval, pcJGet, Nat.reduceAdd, FNj_96, hE, List.headD_cons]
      · simp only [IE.eval, pcJGet, Nat.reduceAdd, FNj_97, hC, List.headD_cons]
    rw [if_neg hs] at hC
    refine pc_inst mix pcJGet knG_ok (by decide) jget5 hargs fun e0 hf hq => ?_
    obtain ⟨q0, q1⟩ := args e0 hq
    have e2 : P + (P + N + 3 - P) = P + N + 3 := by omega
    refine ⟨?_, ?_⟩
    · simp only [asG5, lt, eq0, dE, endE, n83, p84, c85, aBA, atmB, AsOk_cons, AsOk_nil, BE.eval, cmpI, IE.eval, IE.reval, IE.aeval, hf, q0, q1, f83, f84, f85, e1, e2, List.headD_cons, Nat.div_one]
      simp; omega
    simp only [allLeaves, AsOk_cons, AsOk_nil, BE.eval, cmpI, IE.eval, IE.reval, IE.aeval, hf, q0, q1, f83, f84, f85, e1, e2, ← hx, FNj_90, FNj_91, List.headD_cons, Nat.div_one, and_true, decide_eq_true_eq, decide_eq_false_iff_not]
    refine ⟨fun hA => ?_, fun hA => ?_, fun hA => ?_, fun hA => ?_⟩
    · rw [hA.1] at hC
      rw [if_pos hC] at hM hE
      refine ⟨[_, _, _], rfl, ⟨by decide, _, rfl, ?_, ?_⟩, ⟨_, rfl, ?_⟩, ⟨_, rfl, ?_⟩, rfl⟩
      · rw [subE_eval (by simp only [IE.reval, IE.eval, IE.aeval, hf, q0, q1, f83, f84, e1, e2, ← hx, List.headD_cons, FNj_90]; simp)]
        simp only [IE.reval, IE.eval, IE.aeval, hf, q0, q1, f83, f84, e1, e2, ← hx, List.headD_cons, FNj_90, pcJGet, FNj_95, hM, Nat.div_one]
        exact sub_all rfl
      · refine ⟨by simp only [IE.eval, IE.reval]; omega, fun B r cnt ks' h1 h2 => ?_⟩
        obtain rfl := Option.some.inj h1
        cases h2
        exact Int.le_refl _
      · simp only [IE.reval, IE.eval, IE.aeval, hf, q0, q1, f83, f84, e1, List.headD_cons, pcJGet, Nat.reduceAdd, FNj_96, hE]
      · simp only [IE.eval, pcJGet, Nat.reduceAdd, FNj_97, hC, List.headD_cons]
    · rw [if_neg (by rw [hC]; exact hA.1)] at hM hE
      refine ⟨[_, _, _], rfl, ⟨by decide, _, rfl, ?_, trivial⟩, ⟨_, rfl, ?_⟩, ⟨_, rfl, ?_⟩, rfl⟩
      · simp only [IE.reval, pcJGet, FNj_95, hM]
      · simp only [IE.eval, pcJGet, Nat.reduceAdd, FNj_96, hE, List.headD_cons]
      · simp only [IE.reval, IE.eval, IE.aeval, hf, q0, q1, f83, f84, e1, e2, ← hx, List.headD_cons, FNj_91, pcJGet, Nat.reduceAdd, FNj_97, hC]
    · rw [hA.1] at hC
      rw [if_pos hC] at hM hE
      have h0 : openM X = [] := List.eq_nil_of_length_eq_zero (by omega)
      refine ⟨[_, _, _], rfl, ⟨by decide, _, rfl, ?_, trivial⟩, ⟨_, rfl, ?_⟩, ⟨_, rfl, ?_⟩, rfl⟩
      · simp only [IE.reval, pcJGet, FNj_95, hM, h0]
      · simp only [IE.reval, IE.eval, IE.aeval, hf, q0, q1, f83, f84, e1, List.headD_cons, pcJGet, Nat.reduceAdd, FNj_96, hE]
      · simp only [IE.eval, pcJGet, Nat.reduceAdd, FNj_97, hC, List.headD_cons]
    · rw [if_neg (by rw [hC]; exact hA.1)] at hM hE
      refine ⟨[_, _, _], rfl, ⟨by decide, _, rfl, ?_, trivial⟩, ⟨_, rfl, ?_⟩, ⟨_, rfl, ?_⟩, rfl⟩
      · simp only [IE.reval, pcJGet, FNj_95, hM]
      · simp only [IE.eval, pcJGet, Nat.reduceAdd, FNj_96, hE, List.headD_cons]
      · simp only [IE.reval, IE.eval, IE.aeval, hf, q0, q1, f83, f84, e1, e2, ← hx, List.headD_cons, FNj_91, pcJGet, Nat.reduceAdd, FNj_97, hC]
  · have hC : jC b a = (lebR b a).1 := by rw [jC, if_pos h85]
    have hM : jM b a = [] := by rw [jM, if_neg (by rw [hC]; exact h85)]
    have hE : jE b a = 0 := by rw [jE, if_neg (by rw [hC]; exact h85)]
    refine pc_inst mix pcJGet knG_ok (by decide) jget1 hargs fun e0 hf hq => ?_
    obtain ⟨q0, q1⟩ := args e0 hq
    refine ⟨?_, ⟨fun _ => ⟨[_, _, _], rfl, ⟨by decide, _, rfl, ?_, trivial⟩, ⟨_, rfl, ?_⟩, ⟨_, rfl, ?_⟩, rfl⟩, trivial⟩⟩
    · simp only [asG1, eq0, c85, aBA, atmB, AsOk_cons, AsOk_nil, BE.eval, cmpI, IE.eval, IE.reval, IE.aeval, hf, q0, q1, FNj_85, List.headD_cons, Nat.div_one]
      simp [h85]; omega
    · simp only [IE.reval, pcJGet, FNj_95, hM]
    · simp only [IE.eval, pcJGet, Nat.reduceAdd, FNj_96, hE, List.headD_cons]
    · simp only [IE.reval, IE.eval, IE.aeval, hf, q0, q1, List.headD_cons, pcJGet, Nat.reduceAdd, FNj_85, FNj_97, hC]

end Go.Proofs.Ytkfejcffacbngaa.J
