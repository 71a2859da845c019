/- Contracts at another table; laws with what is assumed from the beginning. -/
import Derived.Test.YtagahpfinaaemaaSyCc
namespace Go.Sym
open Go Go.RowKit
set_option linter.unusedVariables false

/-- A CONTRACT SPEAKS OF ITS OWN FUNCTIONS ALONE. -/
theorem PcOk.cong {P : Program} {FN FN' : Nat → List (List Int) → List Int} {c : Pc} (h : PcOk P FN c) (he : ∀ i, i < c.rks.length → FN' (c.id + i) = FN (c.id + i)) (hp : ∀ i ∈ c.pre, FN' i = FN i) : PcOk P FN' c := by
  have hpre : ∀ ls l, (∀ i ∈ l, FN' i = FN i) → PreOk FN' ls l → PreOk FN ls l := by
    intro ls l
    induction l with
    | nil => intro _ _; trivial
    | cons i r ih =>
      intro hq hx
      exact ⟨by rw [← hq i (List.mem_cons_self ..)]; exact hx.1, ih (fun j hj => hq j (List.mem_cons_of_mem _ hj)) hx.2⟩
  have hres : ∀ ls w w' (rks : List ResK) id vs, (∀ i, i < rks.length → FN' (id + i) = FN (id + i)) → ResL FN ls w w' id rks vs → ResL FN' ls w w' id rks vs := by
    intro ls w w' rks
    induction rks with
    | nil => intro id vs _ hx; exact hx
    | cons r rs ih =>
      intro id vs hq hx
      have h0 := hq 0 (by simp)
      rw [Nat.add_zero] at h0
      have hs : ∀ i, i < rs.length → FN' (id + 1 + i) = FN (id + 1 + i) := fun i hi => by
        have := hq (i + 1) (by simp; omega)
        rwa [show id + 1 + i = id + (i + 1) by omega]
      cases r with
      | sl e ks =>
        obtain ⟨v, vs', q1, q2, q3⟩ := hx
        exact ⟨v, vs', q1, by rw [h0]; exact q2, ih _ _ hs q3⟩
      | int k =>
        obtain ⟨v, vs', q1, q2, q3⟩ := hx
        exact ⟨v, vs', q1, by rw [h0]; exact q2, ih _ _ hs q3⟩
      | bool =>
        obtain ⟨v, vs', q1, q2, q3⟩ := hx
        exact ⟨v, vs', q1, by rw [h0]; exact q2, ih _ _ hs q3⟩
      | str =>
        obtain ⟨v, vs', q1, q2, q3⟩ := hx
        exact ⟨v, vs', q1, by rw [h0]; exact q2, ih _ _ hs q3⟩
      | agg ks =>
        obtain ⟨v, vs', q1, q2, q3⟩ := hx
        exact ⟨v, vs', q1, by rw [h0]; exact q2, ih _ _ hs q3⟩
  intro w vs ls ha hr hq
  refine Calls.mono (h w vs ls ha hr (hpre ls _ hp hq)) ?_
  rintro e w' ⟨h1, v, vs', h2, h3, h4⟩
  exact ⟨h1, v, vs', h2, h3, hres _ _ _ _ _ _ he h4⟩

/-- A LAW SAYS TRUE, IF THESE NUMBERS ARE RIGHT: what is assumed from the beginning may be chosen. -/
theorem law_floyd_as {P : Program} {FN : Nat → List (List Int) → List Int} (hmix : P.follows .mixedOrders = true) {kn : Kn} {n f k base : Nat} {F : FuncId} {aks : List ArgK} {aa : As} (hkn : ∀ env : Env, env.fn = FN → KnOk P env kn) (hbase : aks.length ≤ base) {eouts : List Leaf}
    (hent : entryK P kn n f F [] base (argSVs 0 aks) k aa = some eouts)
    {w : World} {vs : Array Value} {ls : List (List Int)} (hargs : ArgsAre w vs.toList aks ls)
    (H : ∀ (e0 : Env), e0.fn = FN → ArgsE e0 0 aks ls → AsOk e0 aa ∧ allLeaves (fun lf => AsOk e0 lf.1 → StepL (fun _ _ => False) (fun _ _ => (0, 0)) none e0 lf.2) eouts) : Calls P F vs w fun e w' => e = .returned (.bool true) ∧ Below w.heap.size w w' := by
  have h0 : ArgsE (argEnv FN aks vs.toList ls) 0 aks ls := by have := argsE_of (FN := FN) hargs aks 0 rfl; simpa using this
  obtain ⟨h1, h2⟩ := H _ rfl h0
  refine floyd_args (n := n) (f := f) (k := k) (kn := kn) (base := base) (cs := []) hmix hkn hbase hargs (fun _ _ => False) (fun _ _ => (0, 0)) (fun i p T hi => by simp at hi) (fun i env h => h.elim) hent h1 (fun lf hlf hA => ?_)
  have h := allLeaves_spec h2 lf hlf hA
  generalize lf.2 = o at h ⊢
  cases o with
  | ret s M => exact ret_true h
  | cut j σ => exact h
  | bad => exact h

end Go.Sym
