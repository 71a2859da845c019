/- A law's arguments as atoms: numbers, texts, slices that are not known. -/
import Derived.Test.YtgpegadmlkdfmaaEQ
import Derived.Carry
import Derived.WideShapes
import Derived.ChangeShapes
namespace Go.Sym
open Go Go.RowKit
set_option linter.unusedVariables false

def cellS (P : Program) (u : TypeId) (i : Nat) : Option SV :=
  match P.underlying u with
  | some .bool => some (.sbool (.var i))
  | some (.int k) => some (.sint k (.var i))
  | some .string => some (.astr i)
  | some (.slice _) => some (.aslice i)
  | some (.struct _) => none
  | some (.array _ _) => none
  | some _ => some (.atom i)
  | none => none

def cellsS (P : Program) : List TypeId → Nat → Option (List SV)
  | [], _ => some []
  | u :: us, i => match cellS P u i, cellsS P us (Nat.succ i) with
    | some s, some l => some (s :: l)
    | _, _ => none

def argS (P : Program) (t : TypeId) (i : Nat) : Option (SV × Nat) :=
  match isAggT P t with
  | some true => match P.cellTypes P.depth t, tySz P t with
    | some ts, some n => match Nat.beq ts.length n, cellsS P ts i with
      | true, some l => some (.agg l, i + n)
      | _, _ => none
    | _, _ => none
  | some false => match cellS P t i with
    | some s => some (s, Nat.succ i)
    | none => none
  | none => none

def argsS (P : Program) : List TypeId → Nat → Option (List SV)
  | [], _ => some []
  | t :: ts, i => match argS P t i with
    | some (s, j) => match argsS P ts j with
      | some l => some (s :: l)
      | none => none
    | none => none

def envOf (vs : List Value) : Env := fun i => ((vs.flatMap fun v => v.cells.toList)[i]?).getD undef

section
variable {P : Program} {w : World} {r : Reach} {base : Nat} {ρ : Rho} {env : Env}

theorem cellS_rep {u : TypeId} {i : Nat} {s : SV} {v : Value} (h : cellS P u i = some s) (hv : Cell.okWide P w r base u v) (he : env i = v) : Rep ρ env s v ∧ s.one = true := by
  subst he
  unfold cellS at h
  simp only [Cell.okWide, Cell.ok] at hv
  split at h
  · rename_i hu
    cases h
    rw [hu] at hv
    cases hx : env i <;> rw [hx] at hv <;> simp at hv
    exact ⟨by simp [Rep, BE.eval, hx, vBool], rfl⟩
  · rename_i k hu
    cases h
    rw [hu] at hv
    cases hx : env i <;> rw [hx] at hv <;> simp at hv
    exact ⟨by simp [Rep, IE.eval, hx, vInt, hv.1], rfl⟩
  · rename_i hu
    cases h
    rw [hu] at hv
    cases hx : env i <;> rw [hx] at hv <;> simp at hv
    exact ⟨by simp only [Rep]; exact ⟨_, rfl, hx.symm⟩, rfl⟩
  · rename_i e hu
    cases h
    rw [hu] at hv
    cases hx : env i <;> rw [hx] at hv <;> simp at hv
    exact ⟨by simp only [Rep]; exact ⟨_, _, _, rfl, hx.symm⟩, rfl⟩
  · cases h
  · cases h
  · rename_i d h1 h2 h3 h4 h5 h6 hu
    cases h
    refine ⟨?_, rfl⟩
    simp only [Rep, true_and]
    rw [hu] at hv
    cases hx : env i <;> first | rfl | (rw [hx] at hv; cases d <;> simp at hv)
  · cases h

theorem cellsS_rep : ∀ {us : List TypeId} {i : Nat} {l : List SV} {vs : List Value}, cellsS P us i = some l → vs.length = us.length → (∀ (j : Nat) (u : TypeId) (v : Value), us[j]? = some u → vs[j]? = some v → Cell.okWide P w r base u v) →
    (∀ (j : Nat) (v : Value), vs[j]? = some v → env (i + j) = v) → RepL ρ env l vs
  | [], i, l, vs, h, hl, hv, he => by
    simp only [cellsS, Option.some.injEq] at h; subst h
    have : vs = [] := List.eq_nil_of_length_eq_zero (by simpa using hl)
    subst this; simp [RepL]
  | u :: us, i, l, vs, h, hl, hv, he => by
    simp only [cellsS] at h
    split at h
    · rename_i s l' h1 h2
      cases h
      cases vs with
      | nil => simp at hl
      | cons v vs =>
        simp only [RepL]
        refine ⟨v, vs, rfl, (cellS_rep h1 (hv 0 u v (by simp) (by simp)) (by simpa using he 0 v (by simp))).1, ?_⟩
        exact cellsS_rep h2 (by simpa using hl) (fun j u' v' h3 h4 => hv (j + 1) u' v' (by simpa using h3) (by simpa using h4)) fun j v' h3 => by
          have := he (j + 1) v' (by simpa using h3)
          rwa [show i + (j + 1) = Nat.succ i + j by omega] at this
    · cases h

theorem argS_rep {t : TypeId} {i j : Nat} {s : SV} {v : Value} (h : argS P t i = some (s, j)) (hv : Value.okWide P w r base t v) (he : ∀ (k : Nat) (u : Value), v.cells.toList[k]? = some u → env (i + k) = u) :
    Rep ρ env s v ∧ j = i + v.cells.size := by
  unfold argS at h
  split at h
  · rename_i ha
    split at h
    · rename_i ts n hts hn
      split at h
      · rename_i l hb hl
        have hb := Nat.eq_of_beq_eq_true hb
        cases h
        have hv' : ∃ cs, v = .agg cs ∧ cs.size = P.cellsOf t ∧ Row.okWide P w r base t cs := by
          unfold isAggT at ha
          unfold Value.okWide at hv
          split at ha
          · rename_i d hu
            rw [hu] at hv
            cases d <;> simp [aggD] at ha <;> exact hv
          · cases ha
        obtain ⟨cs, rfl, hsz, ts', h1, h2, h3⟩ := hv'
        rw [hts] at h1
        cases h1
        have hcs : cs.size = n := by
          rw [hsz]
          unfold tySz at hn
          split at hn
          · rename_i inf hi; cases hn; simp [Program.cellsOf, hi]
          · cases hn
        refine ⟨by
          simp only [Rep]
          refine ⟨cs, rfl, cellsS_rep (w := w) (r := r) (base := base) hl (by simp; omega) (fun k u x h4 h5 => ?_) fun k x h4 => he k x h4⟩
          have hk : k < ts.length := (List.getElem?_eq_some_iff.1 h4).1
          obtain ⟨u', h6, h7⟩ := h3 k x (by simpa using h5)
          rw [Nat.mod_eq_of_lt hk, h4] at h6
          cases h6
          exact h7, by simp [Value.cells, hcs]⟩
      · cases h
    · cases h
  · rename_i ha
    split at h
    · rename_i s' hs
      cases h
      have hv' : Cell.okWide P w r base t v := by
        unfold isAggT at ha
        unfold Value.okWide at hv
        split at ha
        · rename_i d hu
          rw [hu] at hv
          cases d <;> simp [aggD] at ha <;> exact hv
        · cases ha
      -- one cell
      have hone : v.oneCell' = true := by
        have hs0 := hs
        unfold cellS at hs0
        simp only [Cell.okWide, Cell.ok] at hv'
        cases hu : P.underlying t with
        | none => rw [hu] at hs0; cases hs0
        | some d => rw [hu] at hv'; cases v <;> first | rfl | (cases d <;> simp at hv')
      have hc := Value.cells_of_one hone
      refine ⟨(cellS_rep hs hv' ?_).1, by rw [hc]; rfl⟩
      have := he 0 v (by rw [hc]; rfl)
      simpa using this
    · cases h
  · cases h

theorem argsS_rep : ∀ {ts : List TypeId} {i : Nat} {l : List SV} {vs : List Value}, argsS P ts i = some l → vs.length = ts.length → (∀ (j : Nat) (t : TypeId) (v : Value), ts[j]? = some t → vs[j]? = some v → Value.okWide P w r base t v) →
    (∀ (k : Nat) (u : Value), (vs.flatMap fun v => v.cells.toList)[k]? = some u → env (i + k) = u) → RepL ρ env l vs
  | [], i, l, vs, h, hl, hv, he => by
    simp only [argsS, Option.some.injEq] at h; subst h
    have : vs = [] := List.eq_nil_of_length_eq_zero (by simpa using hl)
    subst this; simp [RepL]
  | t :: ts, i, l, vs, h, hl, hv, he => by
    simp only [argsS] at h
    split at h
    · rename_i s j h1
      split at h
      · rename_i l' h2
        cases h
        cases vs with
        | nil => simp at hl
        | cons v vs =>
          obtain ⟨g1, g2⟩ := argS_rep (ρ := ρ) (env := env) h1 (hv 0 t v (by simp) (by simp)) fun k u hk => he k u (by
            simp only [List.flatMap_cons]
            rw [List.getElem?_append_left (List.getElem?_eq_some_iff.1 hk).1]; exact hk)
          simp only [RepL]
          refine ⟨v, vs, rfl, g1, argsS_rep h2 (by simpa using hl) (fun j u' v' h3 h4 => hv (j + 1) u' v' (by simpa using h3) (by simpa using h4)) fun k u hk => ?_⟩
          have := he (v.cells.size + k) u (by
            simp only [List.flatMap_cons]
            rw [List.getElem?_append_right (by simp)]
            simpa using hk)
          rw [g2, Nat.add_assoc]
          exact this
      · cases h
    · cases h

/-- THE ARGUMENTS OF A LAW as atoms. -/
theorem args_rep {ts : List TypeId} {l : List SV} {vs : List Value} (h : argsS P ts 0 = some l) (hl : vs.length = ts.length) (hv : ∀ (j : Nat) (t : TypeId) (v : Value), ts[j]? = some t → vs[j]? = some v → Value.okWide P w r base t v) :
    RepL (fun _ => none) (envOf vs) l vs :=
  argsS_rep h hl hv fun k u hk => by rw [Nat.zero_add]; simp [envOf, hk]

/-- All ways through a law of these parameters' types say true. -/
def lawTrue (P : Program) (kn : Kn) (n : Nat) (f : FuncId) (ts : List TypeId) (k : Nat) : Bool :=
  match argsS P ts 0 with
  | some l => waysTrue P kn n f l k []
  | none => false

def OkAll (P : Program) (w : World) (r : Reach) (base : Nat) : List TypeId → List Value → Prop
  | [], [] => True
  | t :: ts, v :: vs => Value.okWide P w r base t v ∧ OkAll P w r base ts vs
  | _, _ => False

theorem OkAll.nil : OkAll P w r base [] [] := trivial
theorem OkAll.cons {t : TypeId} {ts : List TypeId} {v : Value} {vs : List Value} (h : Value.okWide P w r base t v) (hs : OkAll P w r base ts vs) : OkAll P w r base (t :: ts) (v :: vs) := ⟨h, hs⟩

theorem OkAll.spec : ∀ {ts : List TypeId} {vs : List Value}, OkAll P w r base ts vs → vs.length = ts.length ∧ ∀ (j : Nat) (t : TypeId) (v : Value), ts[j]? = some t → vs[j]? = some v → Value.okWide P w r base t v
  | [], [], _ => ⟨rfl, fun j t v h => by simp at h⟩
  | [], _ :: _, h => h.elim
  | _ :: _, [], h => h.elim
  | t :: ts, v :: vs, h => by
    obtain ⟨h1, h2⟩ := OkAll.spec h.2
    refine ⟨by simp [h1], fun j t' v' h3 h4 => ?_⟩
    cases j with
    | zero => simp at h3 h4; subst h3; subst h4; exact h.1
    | succ j => exact h2 j t' v' (by simpa using h3) (by simpa using h4)

theorem law_of {n k : Nat} {f : FuncId} {ts : List TypeId} (hmix : P.follows .mixedOrders = true) {kn : Kn} (hkn : KnOk P kn) (h : lawTrue P kn n f ts k = true) {vs : List Value} (hv : OkAll P w r base ts vs) (W : World) :
    Calls P f vs.toArray W fun e w' => e = .returned (.bool true) ∧ Below W.heap.size W w' := by
  unfold lawTrue at h
  split at h
  · rename_i l hl'
    exact run_law (env := envOf vs) hmix hkn n k h (args_rep (w := w) (r := r) (base := base) hl' hv.spec.1 hv.spec.2) W
  · cases h

end
end Go.Sym
