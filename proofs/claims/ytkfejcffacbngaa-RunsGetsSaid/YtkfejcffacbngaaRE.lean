import Derived.Test.YtkfejcffacbngaaRD

namespace Go.Proofs.Ytkfejcffacbngaa.J

open Go Go.Sym

set_option linter.unusedVariables false

/-- A contract at one call: what is assumed from the beginning may be chosen by the numbers. -/
theorem pc_inst' {P : Program} {FN : Nat → List (List Int) → List Int} {aa : As} (hmix : P.follows .mixedOrders = true) {kn : Kn} {n f k base : Nat} (c : Pc) (hkn : ∀ env : Env, env.fn = FN → KnOk P env kn) (hbase : c.aks.length ≤ base) {eouts : List Leaf}
    (hent : entryK P kn n f c.f [] base (argSVs 0 c.aks) k aa = some eouts) {w : World} {vs : Array Value} {ls : List (List Int)} (hargs : ArgsAre w vs.toList c.aks ls)
    (H : ∀ (e0 : Env), e0.fn = FN → ArgsE e0 0 c.aks ls → AsOk e0 aa ∧ allLeaves (fun lf => AsOk e0 lf.1 → StepG FN ls c.id c.rks (fun _ _ => False) (fun _ _ => (0, 0)) none e0 lf.2) eouts) :
    Calls P c.f vs w fun e w' => RowKit.Below w.heap.size w w' ∧ ∃ v vs', e = .returned v ∧ TupIs v vs' ∧ ResL FN ls w w' c.id c.rks vs' := by
  have h0 : ArgsE (argEnv FN c.aks vs.toList ls) 0 c.aks ls := by have := argsE_of (FN := FN) hargs c.aks 0 rfl; simpa using this
  obtain ⟨ha, h2⟩ := H _ rfl h0
  refine floyd_args (n := n) (f := f) (k := k) (kn := kn) (base := base) (cs := []) hmix hkn hbase hargs (fun _ _ => False) (fun _ _ => (0, 0)) (fun i p T hi => by simp at hi) (fun i env h => h.elim) hent ha (fun lf hlf hA => ?_)
  have h := allLeaves_spec h2 lf hlf hA
  generalize lf.2 = o at h ⊢
  cases o with
  | ret s M => obtain ⟨l, hl, hr⟩ := h; exact ret_good l hl hr
  | cut j σ => exact h
  | bad => exact h

theorem fold_leaves {ls : List (List Int)} {e0 : Env} {c : Pc} (hid : c.id = 100) (hr : c.rks = [.int .u64]) (hargs : ArgsE e0 0 [.int .i64] ls) : ∃ x, ls = [[x]] ∧ vInt (e0.val 0) = x := by
  simp only [ArgsE, ArgE] at hargs
  obtain ⟨_, _, rfl, h, rfl⟩ := hargs
  exact ⟨_, by rw [h], rfl⟩

theorem fold_ok : PcOk Try.prog FNp pcFold := by
  intro w vs ls hargs hrng hpre
  refine pc_inst' mix pcFold (fun _ _ => knOk_nil) (by decide) fold_entry hargs fun e0 hf ha => ⟨(fun p hp => by cases hp), ?_⟩
  obtain ⟨x, rfl, hx⟩ := fold_leaves (c := pcFold) rfl rfl ha
  simp only [allLeaves, AsOk_cons, AsOk_nil, BE.eval, cmpI, IE.eval, hx, and_true, decide_eq_true_eq, decide_eq_false_iff_not]
  refine ⟨fun hA => ⟨[_], rfl, ⟨_, rfl, ?_⟩, rfl⟩, fun hA => ⟨[_], rfl, ⟨_, rfl, ?_⟩, rfl⟩⟩
  · simp only [IE.eval, hx, pcFold, FNp_100, foldM, if_pos hA, List.headD_cons]
  · simp only [IE.eval, hx, pcFold, FNp_100, foldM, if_neg hA, List.headD_cons]

theorem foldR_ok : PcOk Try.prog FNp pcFoldR := by
  intro w vs ls hargs hrng hpre
  refine pc_inst' mix pcFoldR (fun _ _ => knOk_nil) (by decide) foldR_entry hargs fun e0 hf ha => ⟨(fun p hp => by cases hp), ?_⟩
  obtain ⟨x, rfl, hx⟩ := fold_leaves (c := pcFoldR) rfl rfl ha
  simp only [allLeaves, AsOk_cons, AsOk_nil, BE.eval, cmpI, IE.eval, hx, and_true, decide_eq_true_eq, decide_eq_false_iff_not]
  refine ⟨fun hA => ⟨[_], rfl, ⟨_, rfl, ?_⟩, rfl⟩, fun hA => ⟨[_], rfl, ⟨_, rfl, ?_⟩, rfl⟩⟩
  · simp only [IE.eval, hx, pcFoldR, FNp_100, foldM, if_pos hA, List.headD_cons]
  · simp only [IE.eval, hx, pcFoldR, FNp_100, foldM, if_neg hA, List.headD_cons]

theorem foldM_rng (x : Int) : 0 ≤ foldM x ∧ foldM x ≤ 18446744073709551615 := by
  have h : ∀ y : Int, 0 ≤ IntKind.u64.wrap y ∧ IntKind.u64.wrap y ≤ 18446744073709551615 := by
    intro y
    simp only [IntKind.wrap, IntKind.bits, IntKind.signed]
    simp
    omega
  unfold foldM
  split
  · exact h _
  · exact h _

/-- leb.Fold as a call -/
theorem fold_call (x : Int) (w : World) : Calls Try.prog 77 #[.int .i64 x] w fun e w' => e = .returned (.int .u64 (foldM x)) ∧ RowKit.Below w.heap.size w w' := by
  refine (fold_ok w #[.int .i64 x] [[x]] ⟨⟨x, rfl, rfl⟩, trivial⟩ trivial trivial).mono ?_
  rintro e w' ⟨hb, v, vs', rfl, ht, hr⟩
  obtain ⟨u, vs2, rfl, hu, rfl⟩ := hr
  simp only [TupIs] at ht
  subst ht
  refine ⟨?_, hb⟩
  rw [show v = .int .u64 (foldM x) from hu]

end Go.Proofs.Ytkfejcffacbngaa.J
