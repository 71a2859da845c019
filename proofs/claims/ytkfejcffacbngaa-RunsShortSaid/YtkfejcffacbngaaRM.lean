import Derived.Test.YtkfejcffacbngaaRL

namespace Go.Proofs.Ytkfejcffacbngaa.J

open Go Go.Sym

set_option linter.unusedVariables false

theorem q_r {c : Pc} (h : PcOk Try.prog FNq c) (h1 : ∀ i, i < c.rks.length → c.id + i ≤ 103) (h2 : c.pre = []) : PcOk Try.prog FNr c := by
  refine h.cong (fun i hi => ?_) (fun i hi => by rw [h2] at hi; cases hi)
  have := h1 i hi
  generalize c.id + i = j at this
  funext l
  unfold FNr
  split <;> first | omega | rfl

theorem rput_r : PcOk Try.prog FNr pcRPut := q_r rput_ok (by decide) rfl
theorem rlen_r : PcOk Try.prog FNr pcRLen := q_r rlen_ok (by decide) rfl

theorem aw_ok : PcOk Try.prog FNr pcAw := by
  intro w vs ls hargs hrng hpre
  refine pc_inst' mix pcAw (fun env h => knOk_cons knOk_nil (Pc.ct_ok h rput_r)) (by decide) aw_entry hargs fun e0 hf ha => ?_
  simp only [pcAw, ArgsE] at ha
  subst ha
  refine ⟨?_, ⟨fun _ => ⟨[_], rfl, ⟨?_, rfl⟩⟩, trivial⟩⟩
  · have := awakeS0
    simp only [ltR, wkE, AsOk_cons, AsOk_nil, BE.eval, cmpI, IE.eval, IE.reval, IE.aeval, hf, FNr_102, Nat.div_one]
    exact ⟨decide_eq_true (by omega), trivial⟩
  · simp only [BE.eval, IE.eval, IE.reval, IE.aeval, hf, FNr_102, pcAw, FNr_104, List.headD_cons, awakeS]
    decide

theorem knS_ok : ∀ env : Env, env.fn = FNr → KnOk Try.prog env knS := fun env h => knOk_cons (knOk_cons knOk_nil (Pc.ct_ok h rlen_r)) (Pc.ct_ok h aw_ok)

def invS (ls : List (List Int)) (c : Nat) (env : Env) : Prop := c = 0 ∧ ∃ (n : Int) (zs : List Int), ls = [[n], zs] ∧ zs.length ≤ 1000 ∧ env.row 1 = zs ∧ ∃ k : Nat, vInt (env.val 2) = k ∧ k ≤ zs.length ∧ ∀ x ∈ zs.take k, -4294967295 ≤ x ∧ x ≤ 4294967295

theorem take_snoc {zs : List Int} {k : Nat} (h : k < zs.length) : zs.take (k + 1) = zs.take k ++ [selL zs (k : Int) 1 0] := by
  rw [List.take_add_one, List.getElem?_eq_getElem h]
  simp [selL, h]

theorem short_law {w : World} {vs : Array Value} {n : Int} {zs : List Int} (h0 : 0 ≤ n) (h1 : n ≤ 65535) (hargs : ArgsAre w vs.toList akS [[n], zs]) : Calls Try.prog 5 vs w fun e w' => e = .returned (.bool true) ∧ RowKit.Below w.heap.size w w' := by
  by_cases hl : zs.length ≤ 1000
  · refine law_floyd_cas (cs := cutS) (FN := FNr) (aa := asS0) (aks := akS) (base := 2) mix (fun ls => ls = [[n], zs]) knS_ok (Nat.le_refl 2) short_rounds short_entry invS (fun ls c env => (0, (2000 - vInt (env.val 2)).toNat)) (fun ls i env h => by have := h.1; simp; omega) ?_ hargs rfl
    intro ls e0 hf ha hls
    subst hls
    simp only [ArgsE, ArgE, List.cons.injEq] at ha
    obtain ⟨_, _, ⟨rfl, rfl⟩, ha0, _, _, ⟨rfl, rfl⟩, ⟨hrow, _⟩, _⟩ := ha
    simp only [List.cons.injEq, and_true] at ha0
    have hn := ha0.symm
    have hz := lenS_zeros n.toNat (by omega)
    have hrep : repL n [0] = List.replicate n.toNat 0 := by
      simp only [repL]
      generalize n.toNat = q
      induction q with
      | zero => rfl
      | succ q ih => rw [List.replicate_succ, List.flatten_cons, ih, List.replicate_succ]; rfl
    refine ⟨?_, fun env hfn => ⟨⟨?_, trivial⟩, ⟨?_, trivial⟩⟩, ?_⟩
    · simp only [asS0, ltR, awR, zE, lz, AsOk_cons, AsOk_nil, BE.eval, cmpI, IE.eval, IE.reval, IE.aeval, hf, hn, hrow, hrep, FNr_103, FNr_104, List.headD_cons, Nat.div_one]
      simp; omega
    · rintro ⟨_, n', zs', hls, hl', q1, k, q2, hk, hx⟩
      simp only [lz, nonneg, atmB, AsOk_cons, AsOk_nil, BE.eval, cmpI, IE.eval, IE.reval, q1, q2, Nat.div_one]
      simp; omega
    · rintro ⟨_, n', zs', hls, hl', q1, k, q2, hk, hx⟩
      simp only [List.cons.injEq, and_true] at hls
      obtain ⟨rfl, rfl⟩ := hls
      simp only [allLeaves, AsOk_cons, AsOk_nil, BE.eval, cmpI, IE.eval, IE.reval, q1, q2, Nat.div_one, and_true, decide_eq_true_eq, decide_eq_false_iff_not]
      refine ⟨fun _ => rfl, fun _ => rfl, fun hA => ?_, fun hA => ?_⟩
      · have hlt : k < zs.length := by omega
        have e1 : binI .add .i64 (k : Int) 1 = ((k + 1 : Nat) : Int) := by simp only [binI]; rw [wrap_i64 (by omega)]; omega
        refine ⟨⟨rfl, n, zs, rfl, hl', ?_, k + 1, ?_, by omega, ?_⟩, fun M hM => ?_⟩
        · simp [upd, lk_nil, q1]
        · simp [upd, lk_cons, lk_nil, IE.eval, q2, e1, vInt_int]
        · intro x hxm
          rw [take_snoc hlt] at hxm
          rcases List.mem_append.1 hxm with h | h
          · exact hx x h
          · simp only [List.mem_singleton] at h
            subst h
            omega
        · cases hM
          refine Prod.lex_def.2 (.inr ⟨rfl, ?_⟩)
          simp only [upd, lk_cons, lk_nil, if_true, IE.eval, q2, e1, vInt_int]
          omega
      · obtain rfl : k = zs.length := by omega
        rw [List.take_length] at hx
        have hfew := lenS_few zs.length zs (Nat.le_refl _) hl' hx
        have e5 : binI .mul .i64 5 (zs.length : Int) = 5 * (zs.length : Int) := wrap_i64 (by omega)
        simp only [StepL, BE.eval, cmpI, IE.eval, IE.reval, IE.aeval, hfn, q1, e5, FNr_103, List.headD_cons, Nat.div_one]
        simp; omega
    · simp only [allLeaves, and_true]
      refine fun _ => ⟨⟨rfl, n, zs, rfl, hl, ?_, 0, ?_, by omega, by simp⟩, fun M hM => by cases hM⟩
      · simp [upd, lk_nil, hrow]
      · simp [upd, lk_cons, lk_nil, IE.eval, vInt_int]
  · refine law_floyd_as (FN := FNr) mix knS_ok (by decide) short_long hargs fun e0 hf ha => ?_
    simp only [ArgsE, ArgE, List.cons.injEq] at ha
    obtain ⟨_, _, ⟨rfl, rfl⟩, ha0, _, _, ⟨rfl, rfl⟩, ⟨hrow, _⟩, _⟩ := ha
    refine ⟨?_, ⟨fun _ => rfl, trivial⟩⟩
    simp only [ltR, awR, lz, AsOk_cons, AsOk_nil, BE.eval, cmpI, IE.eval, IE.reval, IE.aeval, hf, hrow, FNr_104, List.headD_cons, Nat.div_one]
    simp; omega

end Go.Proofs.Ytkfejcffacbngaa.J
