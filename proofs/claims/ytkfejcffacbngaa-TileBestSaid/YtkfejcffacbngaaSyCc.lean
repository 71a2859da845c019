/- A function of numbers: what is left to prove speaks of numbers alone. -/
import Derived.Test.YtkfejcffacbngaaSyCb
namespace Go.Sym
open Go Go.RowKit
set_option linter.unusedVariables false
set_option linter.unusedSectionVars false

/-- an argument's numbers, as atoms -/
def ArgE (env : Env) (i : Nat) : ArgK → List Int → Prop
  | .int _, l => l = [vInt (env.val i)]
  | .bool, l => l = [if vBool (env.val i) then 1 else 0]
  | .str, l => env.row i = l ∧ ∀ x ∈ l, 0 ≤ x ∧ x < 256
  | .agg ks, l => env.row i = l ∧ l.length = ks.length
  | .sl ks, l => env.row i = l ∧ l.length % ks.length = 0

def ArgsE (env : Env) : Nat → List ArgK → List (List Int) → Prop
  | _, [], ls => ls = []
  | i, k :: ks, ls => ∃ l ls', ls = l :: ls' ∧ ArgE env i k l ∧ ArgsE env (i + 1) ks ls'

/-- What leads on: less is left, or what is returned is right. -/
def StepG (FN : Nat → List (List Int) → List Int) (ls : List (List Int)) (id : Nat) (rks : List ResK) (Inv : Nat → Env → Prop) (μ : Nat → Env → Nat × Nat) (bound : Option (Nat × Nat)) (env : Env) : Out → Prop
  | .ret s M => ∃ l, s = tup l ∧ RetEq env FN ls M id rks l
  | .cut j σ => Inv j (upd env σ) ∧ ∀ m, bound = some m → Prod.Lex (· < ·) (· < ·) (μ j (upd env σ)) m
  | .bad => False

def allLeaves (Q : Leaf → Prop) : List Leaf → Prop
  | [] => True
  | lf :: l => Q lf ∧ allLeaves Q l
theorem allLeaves_spec {Q : Leaf → Prop} : ∀ {l : List Leaf}, allLeaves Q l → ∀ lf ∈ l, Q lf
  | [], _, lf, h => by cases h
  | x :: l, hx, lf, h => by
    cases h with
    | head => exact hx.1
    | tail _ hm => exact allLeaves_spec hx.2 lf hm

/-- all rounds -/
def roundsK (P : Program) (kn : Kn) (n f : Nat) (F : FuncId) (all : Cuts) (base k : Nat) : Cuts → Option (List (List Leaf))
  | [] => some []
  | c :: cs => match roundK P kn n f (resOf P F) (bodyOf P F) all base c k, roundsK P kn n f F all base k cs with
    | some o, some l => some (o :: l)
    | _, _ => none

theorem roundsK_spec {P : Program} {kn : Kn} {n f : Nat} {F : FuncId} {all : Cuts} {base k : Nat} : ∀ {cs : Cuts} {l : List (List Leaf)}, roundsK P kn n f F all base k cs = some l → ∀ (i : Nat) c, cs[i]? = some c → ∃ o, l[i]? = some o ∧ roundK P kn n f (resOf P F) (bodyOf P F) all base c k = some o
  | [], l, h, i, c, hc => by simp at hc
  | c' :: cs, l, h, i, c, hc => by
    simp only [roundsK] at h
    split at h <;> try (cases h; done)
    rename_i o l' h1 h2
    cases h
    cases i with
    | zero => simp only [List.getElem?_cons_zero, Option.some.injEq] at hc; subst hc; exact ⟨o, rfl, h1⟩
    | succ i => simp only [List.getElem?_cons_succ] at hc ⊢; exact roundsK_spec h2 i c hc

def AsAll (env : Env) (Inv : Nat → Env → Prop) : Nat → Cuts → Prop
  | _, [] => True
  | i, (_, T) :: cs => (Inv i env → AsOk env T.as) ∧ AsAll env Inv (i + 1) cs
def StepAll (Q : Nat → Env → Leaf → Prop) (env : Env) (Inv : Nat → Env → Prop) : Nat → List (List Leaf) → Prop
  | _, [] => True
  | i, o :: l => (Inv i env → allLeaves (Q i env) o) ∧ StepAll Q env Inv (i + 1) l

theorem AsAll_spec {env : Env} {Inv : Nat → Env → Prop} : ∀ {cs : Cuts} {j : Nat}, AsAll env Inv j cs → ∀ (i : Nat) p T, cs[i]? = some (p, T) → Inv (j + i) env → AsOk env T.as
  | [], j, h, i, p, T, hi => by simp at hi
  | (p', T') :: cs, j, h, i, p, T, hi => by
    cases i with
    | zero =>
      simp only [List.getElem?_cons_zero, Option.some.injEq, Prod.mk.injEq] at hi
      obtain ⟨rfl, rfl⟩ := hi
      exact h.1
    | succ i =>
      simp only [List.getElem?_cons_succ] at hi
      have := AsAll_spec h.2 i p T hi
      rwa [show j + 1 + i = j + (i + 1) by omega] at this
theorem StepAll_spec {Q : Nat → Env → Leaf → Prop} {env : Env} {Inv : Nat → Env → Prop} : ∀ {l : List (List Leaf)} {j : Nat}, StepAll Q env Inv j l → ∀ (i : Nat) o, l[i]? = some o → Inv (j + i) env → allLeaves (Q (j + i) env) o
  | [], j, h, i, o, hi => by simp at hi
  | o' :: l, j, h, i, o, hi => by
    cases i with
    | zero =>
      simp only [List.getElem?_cons_zero, Option.some.injEq] at hi
      subst hi
      exact h.1
    | succ i =>
      simp only [List.getElem?_cons_succ] at hi
      have := StepAll_spec h.2 i o hi
      rwa [show j + 1 + i = j + (i + 1) by omega] at this

section
variable {P : Program} {FN : Nat → List (List Int) → List Int}

theorem argsE_of {w : World} {vs : List Value} {aks : List ArgK} {ls : List (List Int)} (h : ArgsAre w vs aks ls) : ∀ (aks' : List ArgK) (i : Nat), aks.drop i = aks' → ArgsE (argEnv FN aks vs ls) i aks' (ls.drop i)
  | [], i, hd => by
    obtain ⟨h1, h2, h3⟩ := argsAre_get h
    have : aks.length ≤ i := by have := congrArg List.length hd; simp at this; omega
    simp only [ArgsE]
    exact List.drop_eq_nil_of_le (by omega)
  | k :: aks', i, hd => by
    obtain ⟨h1, h2, h3⟩ := argsAre_get h
    have hi : i < aks.length := by have := congrArg List.length hd; simp at this; omega
    have hk : aks[i]? = some k := by
      have : (aks.drop i)[0]? = some k := by rw [hd]; rfl
      rw [List.getElem?_drop] at this; simpa using this
    have hv := List.getElem?_eq_getElem (l := vs) (i := i) (by omega)
    have hl := List.getElem?_eq_getElem (l := ls) (i := i) (by omega)
    rw [List.drop_eq_getElem_cons (by omega : i < ls.length)]
    refine ⟨_, _, rfl, ?_, argsE_of h aks' (i + 1) (by rw [← List.drop_drop, hd]; rfl)⟩
    have hval : (argEnv FN aks vs ls).val i = vs[i]'(by omega) := by simp [argEnv, hv]
    have hrow : (argEnv FN aks vs ls).row i = ls[i]'(by omega) := by simp [argEnv, hl]
    have ha := h3 i _ _ _ hv hk hl
    cases k with
    | int k => obtain ⟨n, h4, h5⟩ := ha; simp only [ArgE, hval, h4, h5, vInt]
    | bool => obtain ⟨n, h4, h5⟩ := ha; simp only [ArgE, hval, h4, h5, vBool]
    | str =>
      obtain ⟨s, h4, h5⟩ := ha
      refine ⟨hrow, fun x hx => ?_⟩
      rw [← h5] at hx
      simp only [intsOf, List.mem_map] at hx
      obtain ⟨b, _, rfl⟩ := hx
      have := b.toNat_lt
      omega
    | agg ks => obtain ⟨cs, h4, h5, h6⟩ := ha; exact ⟨hrow, h6⟩
    | sl ks => obtain ⟨hks, a, n, c, h4, h5, h6, _⟩ := ha; exact ⟨hrow, by rw [h6]; exact Nat.mul_mod_left _ _⟩

/-- A FUNCTION DOES WHAT IS SAID, IF THESE NUMBERS ARE RIGHT. -/
theorem pc_floyd (hmix : P.follows .mixedOrders = true) {kn : Kn} {n f k base : Nat} {cs : Cuts} (c : Pc) (hkn : ∀ env : Env, env.fn = FN → KnOk P env kn) (hbase : c.aks.length ≤ base) {outs : List (List Leaf)} {eouts : List Leaf}
    (hrounds : roundsK P kn n f c.f cs base k cs = some outs) (hent : entryK P kn n f c.f cs base (argSVs 0 c.aks) k [] = some eouts)
    (Inv : List (List Int) → Nat → Env → Prop) (μ : List (List Int) → Nat → Env → Nat × Nat) (hinv : ∀ ls i env, Inv ls i env → i < cs.length)
    (H : ∀ (ls : List (List Int)) (e0 : Env), e0.fn = FN → ArgsE e0 0 c.aks ls → RngOk c.aks ls c.rng → PreOk FN ls c.pre →
      (∀ env : Env, env.fn = FN → AsAll env (Inv ls) 0 cs ∧ StepAll (fun i env lf => AsOk env lf.1 → StepG FN ls c.id c.rks (Inv ls) (μ ls) (some (μ ls i env)) env lf.2) env (Inv ls) 0 outs) ∧
      allLeaves (fun lf => AsOk e0 lf.1 → StepG FN ls c.id c.rks (Inv ls) (μ ls) none e0 lf.2) eouts) : PcOk P FN c := by
  intro w vs ls hargs hrng hpre
  have h0 : ArgsE (argEnv FN c.aks vs.toList ls) 0 c.aks ls := by have := argsE_of (FN := FN) hargs c.aks 0 rfl; simpa using this
  obtain ⟨h1, h2⟩ := H ls _ rfl h0 hrng hpre
  have conv : ∀ b env o, StepG FN ls c.id c.rks (Inv ls) (μ ls) b env o → StepGood w (fun e w' => Below w.heap.size w w' ∧ ∃ v vs', e = .returned v ∧ TupIs v vs' ∧ ResL FN ls w w' c.id c.rks vs') (Inv ls) (μ ls) b env o := by
    intro b env o h
    cases o with
    | ret s M => obtain ⟨l, hl, hr⟩ := h; exact ret_good l hl hr
    | cut j σ => exact h
    | bad => exact h
  refine floyd_args (n := n) (f := f) (k := k) (kn := kn) (base := base) (cs := cs) hmix hkn hbase hargs (Inv ls) (μ ls) (fun i p T hi => ?_) (fun i env => hinv ls i env) hent (AsOk_nil.2 trivial) (fun lf hlf hA => conv _ _ _ (allLeaves_spec h2 lf hlf hA))
  obtain ⟨o, ho1, ho2⟩ := roundsK_spec hrounds i _ hi
  refine ⟨fun env hfn hI => ?_, o, ho2, fun env hfn hI lf hlf hA => ?_⟩
  · have := AsAll_spec (h1 env hfn).1 i p T hi
    rw [Nat.zero_add] at this
    exact this hI
  · have := StepAll_spec (h1 env hfn).2 i o ho1
    rw [Nat.zero_add] at this
    exact conv _ _ _ (allLeaves_spec (this hI) lf hlf hA)

/-- What leads on in a law: less is left, or it says true. -/
def StepL (Inv : Nat → Env → Prop) (μ : Nat → Env → Nat × Nat) (bound : Option (Nat × Nat)) (env : Env) : Out → Prop
  | .ret s _ => match s with
    | .bool b => b = true
    | .sbool b => b.eval env = true
    | _ => False
  | .cut j σ => Inv j (upd env σ) ∧ ∀ m, bound = some m → Prod.Lex (· < ·) (· < ·) (μ j (upd env σ)) m
  | .bad => False

/-- A LAW SAYS TRUE, IF THESE NUMBERS ARE RIGHT. -/
theorem law_floyd (hmix : P.follows .mixedOrders = true) {kn : Kn} {n f k base : Nat} {cs : Cuts} {F : FuncId} {aks : List ArgK} (Ex : List (List Int) → Prop) (hkn : ∀ env : Env, env.fn = FN → KnOk P env kn) (hbase : aks.length ≤ base) {outs : List (List Leaf)} {eouts : List Leaf}
    (hrounds : roundsK P kn n f F cs base k cs = some outs) (hent : entryK P kn n f F cs base (argSVs 0 aks) k [] = some eouts)
    (Inv : List (List Int) → Nat → Env → Prop) (μ : List (List Int) → Nat → Env → Nat × Nat) (hinv : ∀ ls i env, Inv ls i env → i < cs.length)
    (H : ∀ (ls : List (List Int)) (e0 : Env), e0.fn = FN → ArgsE e0 0 aks ls → Ex ls →
      (∀ env : Env, env.fn = FN → AsAll env (Inv ls) 0 cs ∧ StepAll (fun i env lf => AsOk env lf.1 → StepL (Inv ls) (μ ls) (some (μ ls i env)) env lf.2) env (Inv ls) 0 outs) ∧
      allLeaves (fun lf => AsOk e0 lf.1 → StepL (Inv ls) (μ ls) none e0 lf.2) eouts)
    {w : World} {vs : Array Value} {ls : List (List Int)} (hargs : ArgsAre w vs.toList aks ls) (hex : Ex ls) : Calls P F vs w fun e w' => e = .returned (.bool true) ∧ Below w.heap.size w w' := by
  have h0 : ArgsE (argEnv FN aks vs.toList ls) 0 aks ls := by have := argsE_of (FN := FN) hargs aks 0 rfl; simpa using this
  obtain ⟨h1, h2⟩ := H ls _ rfl h0 hex
  have conv : ∀ b env o, StepL (Inv ls) (μ ls) b env o → StepGood w (fun e w' => e = .returned (.bool true) ∧ Below w.heap.size w w') (Inv ls) (μ ls) b env o := by
    intro b env o h
    cases o with
    | ret s M => exact ret_true h
    | cut j σ => exact h
    | bad => exact h
  refine floyd_args (n := n) (f := f) (k := k) (kn := kn) (base := base) (cs := cs) hmix hkn hbase hargs (Inv ls) (μ ls) (fun i p T hi => ?_) (fun i env => hinv ls i env) hent (AsOk_nil.2 trivial) (fun lf hlf hA => conv _ _ _ (allLeaves_spec h2 lf hlf hA))
  obtain ⟨o, ho1, ho2⟩ := roundsK_spec hrounds i _ hi
  refine ⟨fun env hfn hI => ?_, o, ho2, fun env hfn hI lf hlf hA => ?_⟩
  · have := AsAll_spec (h1 env hfn).1 i p T hi
    rw [Nat.zero_add] at this
    exact this hI
  · have := StepAll_spec (h1 env hfn).2 i o ho1
    rw [Nat.zero_add] at this
    exact conv _ _ _ (allLeaves_spec (this hI) lf hlf hA)

theorem vInt_int (k : IntKind) (n : Int) : vInt (.int k n) = n := rfl
theorem vBool_bool (b : Bool) : vBool (.bool b) = b := rfl
/-- a test as a number -/
def encB (b : Bool) : List Int := [if b then 1 else 0]
theorem encB_head (b : Bool) : decide ((encB b).headD 0 ≠ 0) = b := by cases b <;> rfl
theorem encB_headD (b : Bool) : (encB b).headD 0 = if b then 1 else 0 := rfl
theorem encB_zero (b : Bool) : ((encB b).headD 0 = 0) ↔ b = false := by cases b <;> simp [encB]
theorem stepG_cut {ls : List (List Int)} {id : Nat} {rks : List ResK} {Inv : Nat → Env → Prop} {μ : Nat → Env → Nat × Nat} {env : Env} {j : Nat} {σ : Sb} {a b : Nat} (h : Inv j (upd env σ)) (h2 : Prod.Lex (· < ·) (· < ·) (μ j (upd env σ)) (a, b)) : StepG FN ls id rks Inv μ (some (a, b)) env (.cut j σ) :=
  ⟨h, fun m hm => by cases hm; exact h2⟩
theorem stepG_cut0 {ls : List (List Int)} {id : Nat} {rks : List ResK} {Inv : Nat → Env → Prop} {μ : Nat → Env → Nat × Nat} {env : Env} {j : Nat} {σ : Sb} (h : Inv j (upd env σ)) : StepG FN ls id rks Inv μ none env (.cut j σ) :=
  ⟨h, fun m hm => by cases hm⟩
theorem stepG_ret {ls : List (List Int)} {id : Nat} {rks : List ResK} {Inv : Nat → Env → Prop} {μ : Nat → Env → Nat × Nat} {env : Env} {o : Option (Nat × Nat)} {s : SV} {M : Mem} (l : List SV) (h : s = tup l) (h2 : RetEq env FN ls M id rks l) : StepG FN ls id rks Inv μ o env (.ret s M) := ⟨l, h, h2⟩
theorem selL0 (x : Int) (l : List Int) (n : Nat) : selL (x :: l) 0 n 0 = x := by simp [selL]

end
end Go.Sym
