import Derived.Test.YtkfejcffacbngaaJK

namespace Go.Proofs.Ytkfejcffacbngaa.J

open Go Go.Sym

set_option linter.unusedVariables false

theorem knOpen_ok : ∀ env : Env, env.fn = FNd → KnOk Try.prog env [pcSeal.ct, pcClone.ct] := fun env h => knOk_cons (knOk_cons knOk_nil (Pc.ct_ok h clone_ok)) (Pc.ct_ok h seal_ok)

theorem sub_take {l : List Int} {n : Nat} (h : 4 ≤ l.length) : subL l 0 ((l.length : Int) - 4) 1 = l.take (l.length - 4) := by
  have : ((l.length : Int) - 4).toNat = l.length - 4 := by omega
  simp [subL, this]

theorem open_ok : PcOk Try.prog FNd pcOpen := by
  intro w vs ls hargs hrng hpre
  have hargs0 := hargs
  match hvs : vs.toList, ls, hargs with
  | [v], [b], hargs =>
    have hlen := (hrng.1 (.sl [.u8]) b rfl rfl).2
    simp only [measL, List.length_singleton, Nat.div_one] at hlen
    by_cases h4 : b.length < 4
    · refine pc_inst mix pcOpen knOpen_ok (by decide) open_short hargs0 fun e0 hf ha => ?_
      simp only [pcOpen, ArgsE, ArgE, List.cons.injEq] at ha
      obtain ⟨_, _, ⟨rfl, rfl⟩, ⟨hb, _⟩, _⟩ := ha
      refine ⟨?_, ⟨fun _ => ⟨[_, _], rfl, ⟨by decide, _, rfl, ?_, trivial⟩, ⟨_, rfl, ?_⟩, rfl⟩, trivial⟩⟩
      · simp only [AsOk_cons, AsOk_nil, BE.eval, cmpI, IE.eval, IE.reval, hb, Nat.div_one]
        simp; omega
      · simp only [IE.reval, pcOpen, FNd_90, openM, openC, if_pos h4]; rfl
      · simp only [IE.eval, pcOpen, Nat.reduceAdd, FNd_91, openC, if_pos h4, List.headD_cons]
    · refine pc_inst mix pcOpen knOpen_ok (by decide) open_entry hargs0 fun e0 hf ha => ?_
      simp only [pcOpen, ArgsE, ArgE, List.cons.injEq] at ha
      obtain ⟨_, _, ⟨rfl, rfl⟩, ⟨hb, _⟩, _⟩ := ha
      have e4 : binI .sub .i64 (b.length : Int) 4 = (b.length : Int) - 4 := wrap_i64 (by omega)
      have hs := sub_take (l := b) (n := 0) (by omega)
      have hl : (b.take (b.length - 4)).length = b.length - 4 := by simp
      obtain ⟨x, hx⟩ : ∃ x, b.take (b.length - 4) = x := ⟨_, rfl⟩
      rw [hx] at hs hl
      have hc : openC b = if w8L (sealM x) = w8L b then 0 else 10 := by rw [openC, if_neg h4, hx]
      have hm : openM b = if openC b = 0 then x else [] := by rw [openM, hx]
      simp only [allLeaves, asP, innE, atmB, AsOk_cons, AsOk_nil, BE.eval, cmpI, IE.eval, IE.reval, IE.aeval, hf, hb, e4, hs, FNd_88, FNd_89, hl, sealM_len, Nat.div_one, and_true, decide_eq_true_eq, decide_eq_false_iff_not]
      refine ⟨?_, fun hA => ?_, fun hA => ?_, fun hA => ?_⟩
      · simp; omega
      · rw [if_pos hA.2.1] at hc
        rw [if_pos hc] at hm
        refine ⟨[_, _], rfl, ⟨by decide, _, rfl, ?_, ?_⟩, ⟨_, rfl, ?_⟩, rfl⟩
        · rw [subE_eval (by simp only [IE.reval, IE.eval, IE.aeval, hf, hb, FNd_89]; simp)]
          simp only [IE.reval, IE.eval, IE.aeval, hf, hb, e4, hs, FNd_89, pcOpen, FNd_90, hm, Nat.div_one]
          exact sub_all rfl
        · refine ⟨by simp only [IE.eval, IE.reval]; omega, fun B r cnt ks' h1 h2 => ?_⟩
          obtain rfl := Option.some.inj h1
          cases h2
          exact Int.le_refl _
        · simp only [IE.eval, pcOpen, Nat.reduceAdd, FNd_91, hc, List.headD_cons]
      · rw [if_pos hA.2.1] at hc
        rw [if_pos hc] at hm
        have h0 : x = [] := List.eq_nil_of_length_eq_zero (by omega)
        refine ⟨[_, _], rfl, ⟨by decide, _, rfl, ?_, trivial⟩, ⟨_, rfl, ?_⟩, rfl⟩
        · simp only [IE.reval, pcOpen, FNd_90, hm, h0]
        · simp only [IE.eval, pcOpen, Nat.reduceAdd, FNd_91, hc, List.headD_cons]
      · rw [if_neg hA.1] at hc
        rw [if_neg (by rw [hc]; decide)] at hm
        refine ⟨[_, _], rfl, ⟨by decide, _, rfl, ?_, trivial⟩, ⟨_, rfl, ?_⟩, rfl⟩
        · simp only [IE.reval, pcOpen, FNd_90, hm]
        · simp only [IE.eval, pcOpen, Nat.reduceAdd, FNd_91, hc, List.headD_cons]
  | [], _, h => exact h.elim
  | _ :: _ :: _, [_], h => exact h.2.elim
  | _ :: _, [], h => exact h.elim
  | [_], _ :: _ :: _, h => exact h.2.elim
  | _ :: _ :: _, _ :: _ :: _, h => exact h.2.elim

end Go.Proofs.Ytkfejcffacbngaa.J
