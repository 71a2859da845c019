import Derived.Test.YtagahpfinaaemaaKB

namespace Go.Proofs.Ytagahpfinaaemaa

open Go Go.Sym

set_option linter.unusedVariables false

abbrev cutSize : List Nat × Tp := ([0, 1, 0, 1, 1, 1, 1], ⟨37, [(0, .sint .i64 (.var 3)), (1, .sint .i64 (.var 4)), (27, .sint .i64 (.var 2)), (28, .sint .i64 (.var 5))], [], 0, []⟩)

abbrev cutAboveR : List Nat × Tp := ([0, 1, 0, 1], ⟨20, [(0, .sint .i64 (.var 0)), (3, .ptr 0 0), (4, .ptr 1 0), (5, .sint .i64 (.var 2))], [(0, ⟨25, 2, [.sint .i64 (.var 3), .sint .i64 (.var 4)], .nil, false, none⟩), (1, ⟨25, 2, [.int .i64 0, .int .i64 0], .nil, false, none⟩)], 2, []⟩)

theorem size_entry : entryK Try.prog [pcLevels.ct] 50 200 33 [cutSize] 3 (argSVs 0 pcSize.aks) 30 [] = some [([(.cmp .lss (.var 2) (.lit 0), true), (.cmp .eql (.app 22 (.acons (.rcons (.var 0) .rnil) (.acons (.rcons (.var 1) .rnil) .anil))) (.lit 0), true)], .ret (.tuple [.int .i64 0, .int .i64 0, .int .i64 11]) ⟨0, .nil⟩), ([(.cmp .lss (.var 2) (.app 21 (.acons (.rcons (.var 0) .rnil) (.acons (.rcons (.var 1) .rnil) .anil))), true), (.cmp .lss (.var 2) (.lit 0), false), (.cmp .eql (.app 22 (.acons (.rcons (.var 0) .rnil) (.acons (.rcons (.var 1) .rnil) .anil))) (.lit 0), true)], .cut 0 ⟨[(5, .lit 0), (4, .var 1), (3, .var 0)], [], [], []⟩), ([(.cmp .lss (.var 2) (.app 21 (.acons (.rcons (.var 0) .rnil) (.acons (.rcons (.var 1) .rnil) .anil))), false), (.cmp .lss (.var 2) (.lit 0), false), (.cmp .eql (.app 22 (.acons (.rcons (.var 0) .rnil) (.acons (.rcons (.var 1) .rnil) .anil))) (.lit 0), true)], .ret (.tuple [.int .i64 0, .int .i64 0, .int .i64 11]) ⟨0, .nil⟩), ([(.cmp .eql (.app 22 (.acons (.rcons (.var 0) .rnil) (.acons (.rcons (.var 1) .rnil) .anil))) (.lit 0), false)], .ret (.tuple [.int .i64 0, .int .i64 0, .sint .i64 (.app 22 (.acons (.rcons (.var 0) .rnil) (.acons (.rcons (.var 1) .rnil) .anil)))]) ⟨0, .nil⟩)] := by kernel_rfl

theorem size_rounds : roundsK Try.prog [pcLevels.ct] 50 200 33 [cutSize] 3 30 [cutSize] = some [[([(.cmp .lss (.var 5) (.var 2), true)], .cut 0 ⟨[(5, .bin .add .i64 (.var 5) (.lit 1)), (4, .bin .quo .i64 (.bin .add .i64 (.var 4) (.lit 1)) (.lit 2)), (3, .bin .quo .i64 (.bin .add .i64 (.var 3) (.lit 1)) (.lit 2))], [], [], []⟩), ([(.cmp .lss (.var 5) (.var 2), false)], .ret (.tuple [.sint .i64 (.var 3), .sint .i64 (.var 4), .int .i64 0]) ⟨0, .nil⟩)]] := by kernel_rfl

theorem aboveR_entry : entryK Try.prog [] 50 200 41 [cutAboveR] 2 (argSVs 0 pcAboveR.aks) 30 [] = some [([], .cut 0 ⟨[(4, .sel (.rvar 1) (.lit 0) 2 1), (3, .sel (.rvar 1) (.lit 0) 2 0), (2, .lit 0)], [], [], [(1, 1), (0, 0)]⟩)] := by kernel_rfl

theorem aboveR_rounds : roundsK Try.prog [] 50 200 41 [cutAboveR] 2 30 [cutAboveR] = some [[([(.cmp .lss (.var 2) (.var 0), true)], .cut 0 ⟨[(4, .bin .quo .i64 (.var 4) (.lit 2)), (3, .bin .quo .i64 (.var 3) (.lit 2)), (2, .bin .add .i64 (.var 2) (.lit 1))], [], [], [(1, 1), (0, 0)]⟩), ([(.cmp .lss (.var 2) (.var 0), false)], .ret (.agg [.sint .i64 (.var 3), .sint .i64 (.var 4)]) ⟨0, .nil⟩)]] := by kernel_rfl

theorem knLevels : ∀ env : Env, env.fn = FN → KnOk Try.prog env [pcLevels.ct] := fun env h => knOk_cons knOk_nil (Pc.ct_ok h levels_ok)

theorem sizeC_zero {w h k : Int} : sizeC w h k = 0 ↔ szOk w h ∧ 0 ≤ k ∧ k < ((lv 10 w h : Nat) : Int) := by
  unfold sizeC; split
  · rename_i h1; split <;> simp_all
  · simp_all

theorem levN_of {w h : Int} (hc : szOk w h) : levN w h = ((lv 10 w h : Nat) : Int) := by simp only [levN, if_pos hc]

def invSize (ls : List (List Int)) (i : Nat) (env : Env) : Prop := i = 0 ∧ ∃ w h k, ls = [[w], [h], [k]] ∧ sizeC w h k = 0 ∧ ∃ (j : Nat), (vInt (env.val 2) = k ∧ vInt (env.val 3) = hvN j w ∧ vInt (env.val 4) = hvN j h ∧ vInt (env.val 5) = j) ∧ (j : Int) ≤ k

theorem size_ok : PcOk Try.prog FN pcSize := by
  refine pc_floyd (cs := [cutSize]) mix pcSize knLevels (by decide) size_rounds size_entry invSize (fun ls _ env => (0, (vInt (env.val 2) - vInt (env.val 5)).toNat)) (fun ls i env h => by have := h.1; simp; omega) ?_
  intro ls e0 hf hargs hrng hpre
  simp only [pcSize, ArgsE, ArgE] at hargs
  obtain ⟨a, _, rfl, ha, b, _, rfl, hb, c, _, rfl, hc, rfl⟩ := hargs
  obtain ⟨w, hw⟩ : ∃ n, vInt (e0.val 0) = n := ⟨_, rfl⟩
  obtain ⟨h, hh⟩ : ∃ n, vInt (e0.val 1) = n := ⟨_, rfl⟩
  obtain ⟨k, hk⟩ : ∃ n, vInt (e0.val 2) = n := ⟨_, rfl⟩
  simp only [Nat.zero_add, Nat.reduceAdd, hw, hh, hk] at ha hb hc
  subst ha; subst hb; subst hc
  refine ⟨fun env hfn => ⟨⟨fun _ => by simp only [AsOk_nil], trivial⟩, ⟨?_, trivial⟩⟩, ?_⟩
  · rintro ⟨_, w0, h0, k0, hl, hok, j, ⟨q1, q2, q3, q4⟩, q5⟩
    simp only [List.cons.injEq, and_true] at hl
    obtain ⟨rfl, rfl, rfl⟩ := hl
    have hz := sizeC_zero.1 hok
    have hz2 := hz.1
    unfold szOk at hz2
    have hlv := lv_le 10 w h
    simp only [allLeaves, AsOk_cons, AsOk_nil, BE.eval, cmpI, IE.eval, IE.reval, q1, q2, q3, q4, and_true, decide_eq_true_eq, decide_eq_false_iff_not]
    have p1 := hvN_pos hz2.1 j
    have p2 := hvN_pos hz2.2.2.1 j
    have p3 := hvN_le hz2.1 j
    have p4 := hvN_le hz2.2.2.1 j
    have p5 := hvN_pos hz2.1 (j + 1)
    have p6 := hvN_pos hz2.2.2.1 (j + 1)
    have p7 := hvN_le hz2.1 (j + 1)
    have p8 := hvN_le hz2.2.2.1 (j + 1)
    have r1 : hv (hvN j w) = hvN (j + 1) w := rfl
    have r2 : hv (hvN j h) = hvN (j + 1) h := rfl
    refine ⟨fun hA => ?_, fun hA => ?_⟩
    · refine stepG_cut ⟨rfl, w, h, k, rfl, hok, j + 1, ⟨?_, ?_, ?_, ?_⟩, by omega⟩ (Prod.Lex.right _ ?_)
      all_goals simp (disch := omega) [upd, lk_cons, lk_nil, IE.eval, binI, q1, q2, q3, q4, vInt_int, wrap_i64, hv_tdiv, r1, r2]
      all_goals omega
    · refine ⟨[_, _, _], rfl, ⟨_, rfl, ?_⟩, ⟨_, rfl, ?_⟩, ⟨_, rfl, ?_⟩, rfl⟩
      all_goals simp only [FN, g20, g21, g22, g23, g24, g25, g26, g27, g28, g29, pcSize, IE.eval, List.headD_cons, q2, q3, hok, if_true]
      all_goals rw [show k.toNat = j by omega]
  · simp only [allLeaves, AsOk_cons, AsOk_nil, BE.eval, cmpI, IE.eval, IE.reval, IE.aeval, hw, hh, hk, hf, FN, g20, g21, g22, g23, g24, g25, g26, g27, g28, g29, List.headD_cons, levC_zero, and_true, decide_eq_true_eq, decide_eq_false_iff_not]
    refine ⟨fun hA => ?_, fun hA => ?_, fun hA => ?_, fun hA => ?_⟩
    · have e : sizeC w h k = 11 := by unfold sizeC; rw [if_pos hA.2, if_neg (by omega)]
      refine ⟨[_, _, _], rfl, ⟨_, rfl, ?_⟩, ⟨_, rfl, ?_⟩, ⟨_, rfl, ?_⟩, rfl⟩
      all_goals simp [FN, g20, g21, g22, g23, g24, g25, g26, g27, g28, g29, pcSize, IE.eval, e]
    · have e := hA.1
      rw [levN_of hA.2.2] at e
      refine stepG_cut0 ⟨rfl, w, h, k, rfl, sizeC_zero.2 ⟨hA.2.2, by omega, e⟩, 0, ⟨?_, ?_, ?_, ?_⟩, by omega⟩
      all_goals simp [upd, lk_cons, lk_nil, IE.eval, hw, hh, hk, vInt_int, hvN]
    · have e' := hA.1
      rw [levN_of hA.2.2] at e'
      have e : sizeC w h k = 11 := by unfold sizeC; rw [if_pos hA.2.2, if_neg (by omega)]
      refine ⟨[_, _, _], rfl, ⟨_, rfl, ?_⟩, ⟨_, rfl, ?_⟩, ⟨_, rfl, ?_⟩, rfl⟩
      all_goals simp [FN, g20, g21, g22, g23, g24, g25, g26, g27, g28, g29, pcSize, IE.eval, e]
    · have e : sizeC w h k = 3 := by unfold sizeC; rw [if_neg hA]
      refine ⟨[_, _, _], rfl, ⟨_, rfl, ?_⟩, ⟨_, rfl, ?_⟩, ⟨_, rfl, ?_⟩, rfl⟩
      all_goals simp [FN, g20, g21, g22, g23, g24, g25, g26, g27, g28, g29, pcSize, IE.eval, IE.reval, IE.aeval, hf, hw, hh, e, levC, if_neg hA]

theorem knSize : ∀ env : Env, env.fn = FN → KnOk Try.prog env [pcSize.ct] := fun env h => knOk_cons knOk_nil (Pc.ct_ok h size_ok)

end Go.Proofs.Ytagahpfinaaemaa
