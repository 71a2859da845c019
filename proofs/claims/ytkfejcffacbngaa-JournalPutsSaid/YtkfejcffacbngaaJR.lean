import Derived.Test.YtkfejcffacbngaaJQ

namespace Go.Proofs.Ytkfejcffacbngaa.J

open Go Go.Sym

set_option linter.unusedVariables false

theorem awakeW : w8L ([] ++ recM []) = [1, 0, 0, 0, 0] := by decide +kernel

theorem awakeW0 : 0 < ([] ++ recM [] : List Int).length := by decide +kernel

theorem awake_ok : PcOk Try.prog FNj pcAwake := by
  refine pc_line mix pcAwake (fun env h => knOk_cons knOk_nil (Pc.ct_ok h jput_ok)) (by decide) awake_entry ?_
  intro ls e0 hf hargs hrng hpre
  simp only [pcAwake, ArgsE] at hargs
  subst hargs
  refine ⟨?_, ⟨fun _ => ⟨[_], rfl, ⟨?_, rfl⟩⟩, trivial⟩⟩
  · have := awakeW0
    simp only [asW, lt, eq0, pE, AsOk_cons, AsOk_nil, BE.eval, cmpI, IE.eval, IE.reval, IE.aeval, hf, FNj_93, FNj_94, List.headD_cons, Nat.div_one]
    exact ⟨rfl, decide_eq_true (by omega), trivial⟩
  · simp only [BE.eval, IE.reval, IE.aeval, hf, FNj_93, pcAwake, FNj_98, List.headD_cons, awakeW]
    decide

theorem knL_ok : ∀ env : Env, env.fn = FNj → KnOk Try.prog env knL := fun env h => knOk_cons (knOk_cons (knOk_cons (knOk_cons knOk_nil (Pc.ct_ok h jget_ok)) (Pc.ct_ok h rec_ok)) (Pc.ct_ok h jput_ok)) (Pc.ct_ok h awake_ok)

theorem puts_inst {w : World} {vs : Array Value} {a r b : List Int} (hargs : ArgsAre w vs.toList akL [a, r, b]) {aa : As} {outs : List Leaf} (hent : entryK Try.prog knL 1 400 16 [] 3 (argSVs 0 akL) 3 aa = some outs)
    (hall : ∀ e0 : Env, e0.fn = FNj → e0.row 0 = a → e0.row 1 = r → e0.row 2 = b →
      AsOk e0 aa ∧ allLeaves (fun lf => AsOk e0 lf.1 → StepL (fun _ _ => False) (fun _ _ => (0, 0)) none e0 lf.2) outs) : Calls Try.prog 16 vs w fun e w' => e = .returned (.bool true) ∧ RowKit.Below w.heap.size w w' := by
  refine law_floyd_as (FN := FNj) mix knL_ok (by decide) hent hargs fun e0 hf ha => ?_
  simp only [ArgsE, ArgE, List.cons.injEq] at ha
  obtain ⟨_, _, ⟨rfl, rfl⟩, ⟨h0, _⟩, _, _, ⟨rfl, rfl⟩, ⟨h1, _⟩, _, _, ⟨rfl, rfl⟩, ⟨h2, _⟩, _⟩ := ha
  exact hall e0 hf h0 h1 h2

theorem w8L_append (a b : List Int) : w8L (a ++ b) = w8L a ++ w8L b := by simp [w8L]
theorem w8L_length (a : List Int) : (w8L a).length = a.length := by simp [w8L]

theorem jputs_law {w : World} {vs : Array Value} {a r b : List Int} (hargs : ArgsAre w vs.toList akL [a, r, b]) : Calls Try.prog 16 vs w fun e w' => e = .returned (.bool true) ∧ RowKit.Below w.heap.size w w' := by
  by_cases h0 : a.length ≤ 500
  · by_cases h1 : r.length ≤ 500
    · by_cases h2 : b.length ≤ 500
      · obtain ⟨g1, g2, g3⟩ := jget_put (ahead := a) (r := r) (behind := b) (by omega)
        have hr := recM_len r
        by_cases hz : r = []
        · refine puts_inst hargs puts_empty fun e0 hf q0 q1 q2 => ⟨?_, ⟨fun _ => rfl, trivial⟩⟩
          simp only [asL4, asL2, asL1, asL0, asA, lt, eq0, sumE, gJ, gotE, jp, putR, recR, List.cons_append, List.nil_append, AsOk_cons, AsOk_nil, BE.eval, cmpI, IE.eval, IE.reval, IE.aeval, hf, q0, q1, q2, FNj_92, FNj_93, FNj_94, FNj_95, FNj_96, FNj_97, FNj_98, g1, g2, g3, List.headD_cons, w8L_append, w8L_length, List.length_append, Nat.div_one]
          subst hz
          simp [w8L]; omega
        · have hl : 0 < r.length := List.length_pos_iff.2 hz
          refine puts_inst hargs puts_full fun e0 hf q0 q1 q2 => ⟨?_, ⟨fun _ => rfl, trivial⟩⟩
          simp only [asL3, asL2, asL1, asL0, asA, lt, eq0, sumE, gJ, gotE, jp, putR, recR, List.cons_append, List.nil_append, AsOk_cons, AsOk_nil, BE.eval, cmpI, IE.eval, IE.reval, IE.aeval, hf, q0, q1, q2, FNj_92, FNj_93, FNj_94, FNj_95, FNj_96, FNj_97, FNj_98, g1, g2, g3, List.headD_cons, w8L_append, w8L_length, List.length_append, Nat.div_one]
          simp; omega
      · refine puts_inst hargs puts_2 fun e0 hf q0 q1 q2 => ⟨?_, ⟨fun _ => rfl, trivial⟩⟩
        simp only [asA, lt, eq0, List.cons_append, List.nil_append, AsOk_cons, AsOk_nil, BE.eval, cmpI, IE.eval, IE.reval, IE.aeval, hf, q0, q1, q2, FNj_98, List.headD_cons, Nat.div_one]
        simp; omega
    · refine puts_inst hargs puts_1 fun e0 hf q0 q1 q2 => ⟨?_, ⟨fun _ => rfl, trivial⟩⟩
      simp only [asA, lt, eq0, List.cons_append, List.nil_append, AsOk_cons, AsOk_nil, BE.eval, cmpI, IE.eval, IE.reval, IE.aeval, hf, q0, q1, FNj_98, List.headD_cons, Nat.div_one]
      simp; omega
  · refine puts_inst hargs puts_0 fun e0 hf q0 q1 q2 => ⟨?_, ⟨fun _ => rfl, trivial⟩⟩
    simp only [asA, lt, eq0, List.cons_append, List.nil_append, AsOk_cons, AsOk_nil, BE.eval, cmpI, IE.eval, IE.reval, IE.aeval, hf, q0, FNj_98, List.headD_cons, Nat.div_one]
    simp; omega

end Go.Proofs.Ytkfejcffacbngaa.J
