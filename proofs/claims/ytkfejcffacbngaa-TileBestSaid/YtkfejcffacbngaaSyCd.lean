/- Contracts at another table; laws with what is assumed from the beginning. -/
import Derived.Test.YtkfejcffacbngaaSyCc
namespace Go.Sym
open Go Go.RowKit
set_option linter.unusedVariables false

/-- A CONTRACT SPEAKS OF ITS OWN FUNCTIONS ALONE. -/
theorem PcOk.cong {P : Program} {FN FN' : Nat → List (List Int) → List Int} {c : Pc} (h : PcOk P FN c) (he : ∀ i, i < c.rks.length → FN' (c.id + i) = FN (c.id + i)) (hp : ∀ i ∈ c.pre, FN' i = FN i) : PcOk P FN' c := by
  have hpre : ∀ ls l, (∀ i ∈ l, FN' i = FN i) → PreOk FN' ls l → PreOk FN ls l := by
    intro ls l
    induction l with
    | nil => intro _ _; trivial
    | cons i r ih =>
      intro hq hx
      exact ⟨by rw [← hq i (List.mem_cons_self ..)]; exact hx.1, ih (fun j hj => hq j (List.mem_cons_of_mem _ hj)) hx.2⟩
  have hres : ∀ ls w w' (rks : List ResK) id vs, (∀ i, i < rks.length → FN' (id + i) = FN (id + i)) → ResL FN ls w w' id rks vs → ResL FN' ls w w' id rks vs := by
    intro ls w w' rks
    induction rks with
    | nil => intro id vs _ hx; exact hx
    | cons r rs ih =>
      intro id vs hq hx
      have h0 := hq 0 (by simp)
      rw [Nat.add_zero] at h0
      have hs : ∀ i, i < rs.length → FN' (id + 1 + i) = FN (id + 1 + i) := fun i hi => by
        have := hq (i + 1) (by simp; omega)
        rwa [show id + 1 + i = id + (i + 1) by omega]
      cases r with
      | sl e ks =>
        obtain ⟨v, vs', q1, q2, q3⟩ := hx
        exact ⟨v, vs', q1, by rw [h0]; exact q2, ih _ _ hs q3⟩
      | int k =>
        obtain ⟨v, vs', q1, q2, q3⟩ := hx
        exact ⟨v, vs', q1, by rw [h0]; exact q2, ih _ _ hs q3⟩
      | bool =>
        obtain ⟨v, vs', q1, q2, q3⟩ := hx
        exact ⟨v, vs', q1, by rw [h0]; exact q2, ih _ _ hs q3⟩
      | str =>
        obtain ⟨v, vs', q1, q2, q3⟩ := hx
        exact ⟨v, vs', q1, by rw [h0]; exact q2, ih _ _ hs q3⟩
      | agg ks =>
        obtain ⟨v, vs', q1, q2, q3⟩ := hx
        exact ⟨v, vs', q1, by rw [h0]; exact q2, ih _ _ hs q3⟩
  intro w vs ls ha hr hq
  refine Calls.mono (h w vs ls ha hr (hpre ls _ hp hq)) ?_
  rintro e w' ⟨h1, v, vs', h2, h3, h4⟩
  exact ⟨h1, v, vs', h2, h3, hres _ _ _ _ _ _ he h4⟩

/-- A LAW SAYS TRUE, IF THESE NUMBERS ARE RIGHT: what is assumed from the beginning may be chosen. -/
theorem law_floyd_as {P : Program} {FN : Nat → List (List Int) → List Int} (hmix : P.follows .mixedOrders = true) {kn : Kn} {n f k base : Nat} {F : FuncId} {aks : List ArgK} {aa : As} (hkn : ∀ env : Env, env.fn = FN → KnOk P env kn) (hbase : aks.length ≤ base) {eouts : List Leaf}
    (hent : entryK P kn n f F [] base (argSVs 0 aks) k aa = some eouts)
    {w : World} {vs : Array Value} {ls : List (List Int)} (hargs : ArgsAre w vs.toList aks ls)
    (H : ∀ (e0 : Env), e0.fn = FN → ArgsE e0 0 aks ls → AsOk e0 aa ∧ allLeaves (fun lf => AsOk e0 lf.1 → StepL (fun _ _ => False) (fun _ _ => (0, 0)) none e0 lf.2) eouts) : Calls P F vs w fun e w' => e = .returned (.bool true) ∧ Below w.heap.size w w' := by
  have h0 : ArgsE (argEnv FN aks vs.toList ls) 0 aks ls := by have := argsE_of (FN := FN) hargs aks 0 rfl; simpa using this
  obtain ⟨h1, h2⟩ := H _ rfl h0
  refine floyd_args (n := n) (f := f) (k := k) (kn := kn) (base := base) (cs := []) hmix hkn hbase hargs (fun _ _ => False) (fun _ _ => (0, 0)) (fun i p T hi => by simp at hi) (fun i env h => h.elim) hent h1 (fun lf hlf hA => ?_)
  have h := allLeaves_spec h2 lf hlf hA
  generalize lf.2 = o at h ⊢
  cases o with
  | ret s M => exact ret_true h
  | cut j σ => exact h
  | bad => exact h

/-- A FUNCTION DOES WHAT IS SAID, IF THESE NUMBERS ARE RIGHT: what is assumed from the beginning may be chosen. -/
theorem pc_floyd_as {P : Program} {FN : Nat → List (List Int) → List Int} {aa : As} (hmix : P.follows .mixedOrders = true) {kn : Kn} {n f k base : Nat} {cs : Cuts} (c : Pc) (hkn : ∀ env : Env, env.fn = FN → KnOk P env kn) (hbase : c.aks.length ≤ base) {outs : List (List Leaf)} {eouts : List Leaf}
    (hrounds : roundsK P kn n f c.f cs base k cs = some outs) (hent : entryK P kn n f c.f cs base (argSVs 0 c.aks) k aa = some eouts)
    (Inv : List (List Int) → Nat → Env → Prop) (μ : List (List Int) → Nat → Env → Nat × Nat) (hinv : ∀ ls i env, Inv ls i env → i < cs.length)
    (H : ∀ (ls : List (List Int)) (e0 : Env), e0.fn = FN → ArgsE e0 0 c.aks ls → RngOk c.aks ls c.rng → PreOk FN ls c.pre → AsOk e0 aa ∧
      (∀ env : Env, env.fn = FN → AsAll env (Inv ls) 0 cs ∧ StepAll (fun i env lf => AsOk env lf.1 → StepG FN ls c.id c.rks (Inv ls) (μ ls) (some (μ ls i env)) env lf.2) env (Inv ls) 0 outs) ∧
      allLeaves (fun lf => AsOk e0 lf.1 → StepG FN ls c.id c.rks (Inv ls) (μ ls) none e0 lf.2) eouts) : PcOk P FN c := by
  intro w vs ls hargs hrng hpre
  have h0 : ArgsE (argEnv FN c.aks vs.toList ls) 0 c.aks ls := by have := argsE_of (FN := FN) hargs c.aks 0 rfl; simpa using this
  obtain ⟨ha, h1, h2⟩ := H ls _ rfl h0 hrng hpre
  have conv : ∀ b env o, StepG FN ls c.id c.rks (Inv ls) (μ ls) b env o → StepGood w (fun e w' => Below w.heap.size w w' ∧ ∃ v vs', e = .returned v ∧ TupIs v vs' ∧ ResL FN ls w w' c.id c.rks vs') (Inv ls) (μ ls) b env o := by
    intro b env o h
    cases o with
    | ret s M => obtain ⟨l, hl, hr⟩ := h; exact ret_good l hl hr
    | cut j σ => exact h
    | bad => exact h
  refine floyd_args (n := n) (f := f) (k := k) (kn := kn) (base := base) (cs := cs) hmix hkn hbase hargs (Inv ls) (μ ls) (fun i p T hi => ?_) (fun i env => hinv ls i env) hent ha (fun lf hlf hA => conv _ _ _ (allLeaves_spec h2 lf hlf hA))
  obtain ⟨o, ho1, ho2⟩ := roundsK_spec hrounds i _ hi
  refine ⟨fun env hfn hI => ?_, o, ho2, fun env hfn hI lf hlf hA => ?_⟩
  · have := AsAll_spec (h1 env hfn).1 i p T hi
    rw [Nat.zero_add] at this
    exact this hI
  · have := StepAll_spec (h1 env hfn).2 i o ho1
    rw [Nat.zero_add] at this
    exact conv _ _ _ (allLeaves_spec (this hI) lf hlf hA)

/-- A LAW SAYS TRUE, IF THESE NUMBERS ARE RIGHT: by cuts, and with what is assumed from the beginning. -/
theorem law_floyd_cas {P : Program} {FN : Nat → List (List Int) → List Int} {aa : As} (hmix : P.follows .mixedOrders = true) {kn : Kn} {n f k base : Nat} {cs : Cuts} {F : FuncId} {aks : List ArgK} (Ex : List (List Int) → Prop) (hkn : ∀ env : Env, env.fn = FN → KnOk P env kn) (hbase : aks.length ≤ base) {outs : List (List Leaf)} {eouts : List Leaf}
    (hrounds : roundsK P kn n f F cs base k cs = some outs) (hent : entryK P kn n f F cs base (argSVs 0 aks) k aa = some eouts)
    (Inv : List (List Int) → Nat → Env → Prop) (μ : List (List Int) → Nat → Env → Nat × Nat) (hinv : ∀ ls i env, Inv ls i env → i < cs.length)
    (H : ∀ (ls : List (List Int)) (e0 : Env), e0.fn = FN → ArgsE e0 0 aks ls → Ex ls → AsOk e0 aa ∧
      (∀ env : Env, env.fn = FN → AsAll env (Inv ls) 0 cs ∧ StepAll (fun i env lf => AsOk env lf.1 → StepL (Inv ls) (μ ls) (some (μ ls i env)) env lf.2) env (Inv ls) 0 outs) ∧
      allLeaves (fun lf => AsOk e0 lf.1 → StepL (Inv ls) (μ ls) none e0 lf.2) eouts)
    {w : World} {vs : Array Value} {ls : List (List Int)} (hargs : ArgsAre w vs.toList aks ls) (hex : Ex ls) : Calls P F vs w fun e w' => e = .returned (.bool true) ∧ Below w.heap.size w w' := by
  have h0 : ArgsE (argEnv FN aks vs.toList ls) 0 aks ls := by have := argsE_of (FN := FN) hargs aks 0 rfl; simpa using this
  obtain ⟨ha, h1, h2⟩ := H ls _ rfl h0 hex
  have conv : ∀ b env o, StepL (Inv ls) (μ ls) b env o → StepGood w (fun e w' => e = .returned (.bool true) ∧ Below w.heap.size w w') (Inv ls) (μ ls) b env o := by
    intro b env o h
    cases o with
    | ret s M => exact ret_true h
    | cut j σ => exact h
    | bad => exact h
  refine floyd_args (n := n) (f := f) (k := k) (kn := kn) (base := base) (cs := cs) hmix hkn hbase hargs (Inv ls) (μ ls) (fun i p T hi => ?_) (fun i env => hinv ls i env) hent ha (fun lf hlf hA => conv _ _ _ (allLeaves_spec h2 lf hlf hA))
  obtain ⟨o, ho1, ho2⟩ := roundsK_spec hrounds i _ hi
  refine ⟨fun env hfn hI => ?_, o, ho2, fun env hfn hI lf hlf hA => ?_⟩
  · have := AsAll_spec (h1 env hfn).1 i p T hi
    rw [Nat.zero_add] at this
    exact this hI
  · have := StepAll_spec (h1 env hfn).2 i o ho1
    rw [Nat.zero_add] at this
    exact conv _ _ _ (allLeaves_spec (this hI) lf hlf hA)

/-- A slice of integers that came in, as an argument. -/
theorem argSl_of {w : World} {k : IntKind} {a : Option Addr} {len cap : Nat} {zs : List Int} (h : (a = none ∧ len = 0 ∧ cap = 0 ∧ zs = []) ∨ ∃ x, a = some x ∧ len ≤ cap ∧ zs.length = cap ∧ (∀ i, i < zs.length → w.cell? (x.add i) = some (.int k (zs.getD i 0)))) :
    ArgIs w (.slice a len cap) (.sl [k]) (zs.take len) := by
  rcases h with ⟨rfl, rfl, rfl, rfl⟩ | ⟨x, rfl, h1, h2, h3⟩
  · exact ⟨by simp, none, 0, 0, rfl, Nat.le_refl _, by simp, .inr rfl⟩
  · refine ⟨by simp, some x, len, cap, rfl, h1, by simp; omega, ?_⟩
    by_cases hz : len = 0
    · exact .inr hz
    · left
      obtain ⟨b, o, sp⟩ := x
      have h0 := h3 0 (by omega)
      have e0 : (⟨b, o, sp⟩ : Addr).add 0 = ⟨b, o, sp⟩ := by simp [Addr.add]
      rw [e0] at h0
      simp only [World.cell?] at h0
      split at h0
      · rename_i c e f hb
        split at h0
        · cases h0
        · rename_i hsp
          have hs : sp = none := by cases sp <;> simp_all
          subst hs
          refine ⟨b, o, rfl, (Array.getElem?_eq_some_iff.1 hb).1, fun j y hy => ?_⟩
          rw [List.getElem?_take] at hy
          split at hy
          · have hj : j < zs.length := (List.getElem?_eq_some_iff.1 hy).1
            have := h3 j hj
            rw [addr_add] at this
            rw [this]
            have ek : kindAt [k] j = k := by simp [kindAt, Nat.mod_one]
            rw [ek]
            have : zs.getD j 0 = y := by simp [List.getD, hy]
            rw [this]
          · cases hy
      · cases h0

end Go.Sym
