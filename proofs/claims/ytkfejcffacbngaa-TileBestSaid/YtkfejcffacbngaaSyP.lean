/- A drawn region: every order does what the order of the text does. -/
import Derived.Test.YtkfejcffacbngaaSyO
namespace Go.Sym
open Go Go.RowKit
set_option linter.unusedVariables false
set_option linter.unusedSectionVars false

section
variable {P : Program} {ih : Ih} {env : Env} {os : List Oper} {ms : List Nat} {tm0 : Tm} {M0 : Mem}

theorem rG_some {sel : Nat → Bool} : ∀ {d : List Ent} {nm : Nat} {B : Blk}, rG sel d nm = some B → ∃ k e ak, entAt d k = some e ∧ e.kd = .alloc ak B ∧ sel k = true ∧ nm = e.a
  | [], nm, B, h => by simp [rG] at h
  | e :: d, nm, B, h => by
    have old : rG sel d nm = some B → ∃ k e' ak, entAt (e :: d) k = some e' ∧ e'.kd = .alloc ak B ∧ sel k = true ∧ nm = e'.a := fun h => by
      obtain ⟨k, e', ak, h1, h2⟩ := rG_some h
      exact ⟨k, e', ak, by rw [entAt_cons_old (entAt_lt h1)]; exact h1, h2⟩
    simp only [rG] at h
    cases hk : e.kd with
    | alloc ak B0 =>
      simp only [hk] at h
      split at h
      · rename_i hs
        cases h
        exact ⟨d.length, e, ak, entAt_cons_new, hk, hs.1, hs.2⟩
      · exact old h
    | skip => simp only [hk] at h; exact old h
    | still s => simp only [hk] at h; exact old h
    | eff s M1 M2 => simp only [hk] at h; exact old h

/-- No two new blocks have one name. -/
def Uniq (d : List Ent) : Prop := ∀ k k' e e' ak B ak' B', entAt d k = some e → entAt d k' = some e' → e.kd = .alloc ak B → e'.kd = .alloc ak' B' → e.a = e'.a → k = k'

theorem Uniq.tail {e : Ent} {d : List Ent} (h : Uniq (e :: d)) : Uniq d := fun k k' e1 e2 ak B ak' B' h1 h2 h3 h4 h5 =>
  h k k' e1 e2 ak B ak' B' (by rw [entAt_cons_old (entAt_lt h1)]; exact h1) (by rw [entAt_cons_old (entAt_lt h2)]; exact h2) h3 h4 h5

theorem rG_of {sel : Nat → Bool} : ∀ {d : List Ent} {k : Nat} {e : Ent} {ak : AK} {B : Blk}, Uniq d → entAt d k = some e → e.kd = .alloc ak B → sel k = true → rG sel d e.a = some B
  | [], k, e, ak, B, _, h, _, _ => by simp [entAt] at h
  | e0 :: d, k, e, ak, B, hu, h, hk, hs => by
    simp only [entAt] at h
    split at h
    · rename_i hi
      cases h
      subst hi
      simp [rG, hk, hs]
    · have hrec := rG_of (sel := sel) hu.tail h hk hs
      simp only [rG]
      cases hk0 : e0.kd with
      | alloc ak0 B0 =>
        simp only []
        rw [if_neg]
        · exact hrec
        · rintro ⟨_, h2⟩
          have := hu d.length k e0 e ak0 B0 ak B entAt_cons_new (by rw [entAt_cons_old (entAt_lt h)]; exact h) hk0 hk h2.symm
          have := entAt_lt h
          omega
      | _ => exact hrec

theorem rG_none {sel : Nat → Bool} {d : List Ent} {nm : Nat} (h : ∀ k e ak B, entAt d k = some e → e.kd = .alloc ak B → nm = e.a → sel k = false) : rG sel d nm = none := by
  cases hr : rG sel d nm with
  | none => rfl
  | some B =>
    obtain ⟨k, e, ak, h1, h2, h3, h4⟩ := rG_some hr
    rw [h k e ak B h1 h2 h4] at h3; cases h3

theorem rG_congr {sel sel' : Nat → Bool} : ∀ {d : List Ent} {nm : Nat}, (∀ k e ak B, entAt d k = some e → e.kd = .alloc ak B → sel k = sel' k) → rG sel d nm = rG sel' d nm
  | [], nm, h => rfl
  | e :: d, nm, h => by
    have hrec : rG sel d nm = rG sel' d nm := rG_congr fun k e' ak B h1 h2 => h k e' ak B (by rw [entAt_cons_old (entAt_lt h1)]; exact h1) h2
    simp only [rG]
    cases hk : e.kd with
    | alloc ak B => simp only [hrec, h d.length e ak B entAt_cons_new hk]
    | _ => exact hrec

/-- The memory behind the operations of D. -/
def MD (D : Nat → Bool) (M0 : Mem) (d : List Ent) : Get := fun nm =>
  match rG (fun k => D k && !((xmD D d).testBit k)) d nm with
  | some B => some B
  | none => (baseD D M0 d).get nm

structure Inv (env : Env) (L : Nat) (tm0 : Tm) (M0 : Mem) (d : List Ent) (ρ0 : Rho) (w0 : World) (a0 : Act) (D : Nat → Bool) (ρ : Rho) (a : Act) (w : World) : Prop where
  sz : a.tmps.size = tm0.sz
  tm : ∀ t, Rep ρ env (tmS D tm0 d t) (a.tmps.getD t undef)
  post : Post env L ρ0 M0.get M0.next w0 ρ (MD D M0 d) L w
  free : ∀ nm, M0.next ≤ nm → nm < L → (∀ i e, entAt d i = some e → D i = true → ¬ (e.a ≤ nm ∧ nm < e.b)) → ρ nm = none
  defers : a.defers = a0.defers

theorem Post.trans_in {L l n m l' : Nat} {ρ ρ₁ ρ₂ : Rho} {g g₁ g₂ : Get} {w w₁ w₂ : World} (h : Post env L ρ g n w ρ₁ g₁ L w₁) (k : Post env l ρ₁ g₁ m w₁ ρ₂ g₂ l' w₂) (hn : n ≤ m) (hl : l ≤ L) :
    Post env L ρ g n w ρ₂ g₂ L w₂ where
  ext nm hm := (k.ext nm (by omega)).trans (h.ext nm hm)
  holds := k.holds
  le := h.le
  dom nm h1 h2 := absurd h2 (by omega)
  frame b hb hno := by
    rw [← h.frame b hb hno]
    refine k.frame b (Nat.lt_of_lt_of_le hb h.size) fun nm B q h1 h2 => ?_
    rcases h.own nm B b q h1 h2 with h3 | ⟨nm0, B0, n0, h3, h4⟩
    · omega
    · exact hno nm0 B0 n0 h3 h4
  own nm B b q h1 h2 := by
    rcases k.own nm B b q h1 h2 with h3 | ⟨nm0, B0, n0, h3, h4⟩
    · exact .inl (Nat.le_trans h.size h3)
    · exact h.own nm0 B0 b n0 h3 h4
  size := Nat.le_trans h.size k.size
  os := k.os.trans h.os
  tape := k.tape.trans h.tape
  output := k.output.trans h.output

theorem guardS_spec' {ops : Array Oper} {ρ : Rho} {tm : Tm} {a : Act} {o : Oper} {b : Bool} (h : guardS ops.toList tm o = some b)
    (ht : ∀ j want p t, o.guard = some (j, want) → nth ops.toList j = some p → p.dst = some t → Rep ρ env (tm.get t) (a.tmps.getD t undef)) : Region.wanted o (yielded ops a.tmps) = b := by
  unfold guardS at h
  unfold Region.wanted
  split at h
  · rename_i hg; cases h; rw [hg]
  · rename_i j want hg
    rw [hg]
    simp only []
    unfold yielded
    split at h
    · rename_i p hp0
      have hp := hp0
      rw [nth_eq] at hp
      have hp' : ops[j]? = some p := by simpa using hp
      rw [hp']
      simp only [Option.bind_some]
      split at h
      · rename_i t hd
        rw [hd]
        simp only [Option.bind_some]
        have hrep := ht j want p t hg hp0 hd
        split at h
        · rename_i b' htm
          rw [htm] at hrep
          simp only [Rep] at hrep
          have hv : a.tmps[t]? = some (.bool b') := by
            cases hx : a.tmps[t]? with
            | none => simp [hx, undef] at hrep
            | some v => simp [hx] at hrep; rw [hrep]
          rw [hv]
          cases h
          cases b' <;> cases want <;> rfl
        · rename_i l htm
          cases h
          rw [htm] at hrep
          simp only [Rep] at hrep
          obtain ⟨vs, hv, _⟩ := hrep
          cases hx : a.tmps[t]? with
          | none => cases want <;> rfl
          | some v => simp [hx] at hv; subst hv; cases want <;> rfl
        · cases h
      · rename_i hd
        cases h
        rw [hd]
        cases want <;> rfl
    · rename_i hp
      cases h
      rw [nth_eq] at hp
      have hp' : ops[j]? = none := by simpa using hp
      rw [hp']
      cases want <;> rfl

def addD (D : Nat → Bool) (i : Nat) : Nat → Bool := fun k => D k || decide (k = i)

theorem addD_ne {D : Nat → Bool} {i k : Nat} (h : k ≠ i) : addD D i k = D k := by simp [addD, h]
theorem addD_same {D : Nat → Bool} {i : Nat} : addD D i i = true := by simp [addD]

theorem tmS_add {D : Nat → Bool} {i : Nat} {e : Ent} : ∀ {d : List Ent}, entAt d i = some e → ∀ t, e.o.dst = some t → (∀ k e', entAt d k = some e' → e'.o.dst = some t → k ≠ i → (D k = true ↔ k < i)) →
    tmS (addD D i) tm0 d t = e.val
  | [], h, t, _, _ => by simp [entAt] at h
  | e0 :: d, h, t, ht, hD => by
    simp only [entAt] at h
    split at h
    · rename_i hi
      cases h
      subst hi
      simp [tmS, addD_same, ht]
    · rename_i hi
      have hlt := entAt_lt h
      simp only [tmS]
      rw [if_neg]
      · exact tmS_add h t ht fun k e' h1 h2 h3 => hD k e' (by rw [entAt_cons_old (entAt_lt h1)]; exact h1) h2 h3
      · rintro ⟨h1, h2⟩
        rw [addD_ne (fun h => hi h.symm)] at h1
        have := (hD d.length e0 entAt_cons_new h2 (fun h => hi h.symm)).1 h1
        omega

theorem tmS_other {D : Nat → Bool} {i : Nat} : ∀ {d : List Ent} {e : Ent}, entAt d i = some e → ∀ t, e.o.dst ≠ some t → tmS (addD D i) tm0 d t = tmS D tm0 d t
  | [], e, h, t, _ => by simp [entAt] at h
  | e0 :: d, e, h, t, ht => by
    simp only [tmS]
    simp only [entAt] at h
    split at h
    · rename_i hi
      cases h
      rw [if_neg (fun h => ht h.2), if_neg (fun h => ht h.2)]
      subst hi
      clear ht
      -- the rest is older
      have : ∀ (d' : List Ent), d'.length ≤ d.length → tmS (addD D d.length) tm0 d' t = tmS D tm0 d' t := by
        intro d'
        induction d' with
        | nil => intro _; rfl
        | cons x d' ih =>
          intro hl
          simp only [List.length_cons] at hl
          simp only [tmS]
          rw [addD_ne (by omega), ih (by omega)]
      exact this d (Nat.le_refl _)
    · rename_i hi
      rw [addD_ne (fun h => hi h.symm), tmS_other h t ht]

theorem baseD_add_non {D : Nat → Bool} {i : Nat} : ∀ {d : List Ent}, (∀ e, entAt d i = some e → e.isEff = false) → baseD (addD D i) M0 d = baseD D M0 d ∧ xmD (addD D i) d = xmD D d
  | [], _ => ⟨rfl, rfl⟩
  | e0 :: d, h => by
    have hrec := baseD_add_non (D := D) (i := i) (d := d) fun e he => h e (by rw [entAt_cons_old (entAt_lt he)]; exact he)
    simp only [baseD, xmD]
    cases hk : e0.kd with
    | eff s M1 M2 =>
      have hne : d.length ≠ i := fun hi => by
        have := h e0 (by rw [← hi]; exact entAt_cons_new)
        simp [Ent.isEff, hk] at this
      simp only [addD_ne hne, hrec.1, hrec.2, and_self]
    | _ => exact hrec

theorem baseD_add_eff {D : Nat → Bool} {i : Nat} {e : Ent} {s : SV} {M1 M2 : Mem} : ∀ {d : List Ent}, entAt d i = some e → e.kd = .eff s M1 M2 → (∀ k e', entAt d k = some e' → e'.isEff = true → k ≠ i → (D k = true ↔ k < i)) →
    baseD (addD D i) M0 d = M2 ∧ xmD (addD D i) d = e.m
  | [], h, _, _ => by simp [entAt] at h
  | e0 :: d, h, hk, hD => by
    simp only [entAt] at h
    simp only [baseD, xmD]
    split at h
    · rename_i hi
      cases h
      subst hi
      simp [hk, addD_same]
    · rename_i hi
      have hlt := entAt_lt h
      have hrec := baseD_add_eff (D := D) h hk fun k e' h1 h2 h3 => hD k e' (by rw [entAt_cons_old (entAt_lt h1)]; exact h1) h2 h3
      cases hk0 : e0.kd with
      | eff s0 M10 M20 =>
        have : addD D i d.length = false := by
          rw [addD_ne (fun h => hi h.symm)]
          cases hd : D d.length with
          | false => rfl
          | true =>
            have := (hD d.length e0 entAt_cons_new (by simp [Ent.isEff, hk0]) (fun h => hi h.symm)).1 hd
            omega
        simp only [this, Bool.false_eq_true, if_false]
        exact hrec
      | _ => exact hrec

/-- All that is checked of a log. -/
structure Checked1 (P : Program) (ih : Ih) (os : List Oper) (ms : List Nat) (tm0 : Tm) (M0 : Mem) (d : List Ent) : Prop where
  hm : masks os = some ms
  ents : ∀ i e, entAt d i = some e → EntOk P ih os ms tm0 M0 d i e
  len : d.length = os.length
  names : ∀ (i : Nat) (o : Oper) (m : Nat), os[i]? = some o → ms[i]? = some m → ∀ (k : Nat) ok mk t, os[k]? = some ok → ms[k]? = some mk → ok.dst = some t → t ∈ namesO os o → k ≠ i → (if k < i then m.testBit k = true else mk.testBit i = true)
  fresh : ∀ k e ak B, entAt d k = some e → e.kd = .alloc ak B → ∀ x xm M, (x, xm, M) ∈ posOf M0 d → xm.testBit k = false → M.get e.a = none
  still : ∀ k e s, entAt d k = some e → e.kd = .still s → readsMem e.o = true → ∀ x xm M, (x, xm, M) ∈ posOf M0 d → xm.testBit k = false → okPos e.m x (posOf M0 d) = true →
    ∃ M', insAl (fun j => e.m.testBit j && !(xm.testBit j)) (alOf d) M = some M' ∧ sreadA P e.tm.as M' (sev e.tm) e.o = some s

section
variable {d : List Ent} (C : Checked1 P ih os ms tm0 M0 d) {D : Nat → Bool} (hc : Closed os D) {i : Nat} {e : Ent} (he : entAt d i = some e) (hi : D i = false)
  (hready : ∀ x ∈ e.o.after.toList, Region.binds .any x = true → D x.on = true)
include C hc he hi hready

theorem ready_pre {k : Nat} (h : e.m.testBit k = true) : D k = true := by
  have ho := C.ents i e he
  exact closed_pre C.hm hc i k (by simp [pre, ho.mask, h]) (.inl ⟨e.o, ho.op, hready⟩)

omit hready in
theorem not_pre {k : Nat} {e' : Ent} (hk : entAt d k = some e') (h : e'.m.testBit i = true) : D k = false := by
  cases hd : D k with
  | false => rfl
  | true =>
    have ho := C.ents k e' hk
    have := closed_pre C.hm hc k i (by simp [pre, ho.mask, h]) (.inr hd)
    rw [hi] at this; cases this

theorem names_iff {t : Nat} (ht : t ∈ namesO os e.o) : ∀ k e', entAt d k = some e' → e'.o.dst = some t → (D k = true ↔ k < i) := by
  intro k e' hk hd
  have ho := C.ents i e he
  have hok := C.ents k e' hk
  by_cases hki : k = i
  · subst hki
    rw [hi]; simp
  · have := C.names i e.o e.m ho.op ho.mask k e'.o e'.m t hok.op hok.mask hd ht hki
    by_cases hlt : k < i
    · rw [if_pos hlt] at this
      have := ready_pre C hc he hi hready this
      simp [this, hlt]
    · rw [if_neg hlt] at this
      have := not_pre C hc he hi hk this
      simp [this, hlt]

theorem tm_same {t : Nat} (ht : t ∈ namesO os e.o) : tmS D tm0 d t = e.tm.get t :=
  (C.ents i e he).tm D t (names_iff C hc he hi hready ht)

/-- the slots behind D as an evaluation of operands -/
def sevD (D : Nat → Bool) (tm0 : Tm) (d : List Ent) : Ev
  | .tmp t => some (tmS D tm0 d t)
  | .const v => ofV v
  | .global g => some (.gptr g 0)
  | .func f => some (.func (.func f) [] [])

theorem sevD_same : ∀ x ∈ e.o.op.operands.toList, sev e.tm x = sevD D tm0 d x := by
  intro x hx
  cases x with
  | tmp t =>
    simp only [sev, sevD]
    rw [tm_same C hc he hi hready]
    simp only [namesO, List.mem_append, List.mem_filterMap]
    exact .inr (.inl ⟨.tmp t, hx, rfl⟩)
  | _ => rfl

omit C hc he hi hready in
theorem sevD_ok {ρ : Rho} {a : Act} (h : ∀ t, Rep ρ env (tmS D tm0 d t) (a.tmps.getD t undef)) : EvOk ρ env (sevD D tm0 d) a.eval := by
  intro x s hx
  cases x with
  | tmp t => simp only [sevD, Option.some.injEq] at hx; subst hx; exact h t
  | const v => simp only [sevD] at hx; exact (ofV_spec hx).1
  | global g => simp only [sevD, Option.some.injEq] at hx; subst hx; simp [Rep, Act.eval]
  | func f =>
    simp only [sevD, Option.some.injEq] at hx; subst hx
    simp only [Rep, Act.eval]
    exact ⟨_, _, rfl, by simp [RepL], by simp [RepL]⟩

omit hc he hi hready in
theorem sep_both {k k' : Nat} {e1 e2 : Ent} (h1 : entAt d k = some e1) (h2 : entAt d k' = some e2) (hne : k ≠ k') : e1.b ≤ e2.a ∨ e2.b ≤ e1.a := by
  rcases Nat.lt_or_ge k k' with h | h
  · exact .inl ((C.ents k' e2 h2).sep k e1 h1 h)
  · exact .inr ((C.ents k e1 h1).sep k' e2 h2 (by omega))

omit hc he hi hready in
theorem uniq : Uniq d := by
  intro k k' e1 e2 ak B ak' B' h1 h2 h3 h4 h5
  by_cases hk : k = k'
  · exact hk
  · have q1 := (C.ents k e1 h1).kd
    have q2 := (C.ents k' e2 h2).kd
    unfold KdOk at q1 q2
    simp only [h3] at q1
    simp only [h4] at q2
    rcases sep_both C h1 h2 hk with h | h <;> omega

/-- the last one that turned memory does not wait for i -/
theorem xm_not : (xmD D d).testBit i = false := by
  cases hb : (xmD D d).testBit i with
  | false => rfl
  | true =>
    exfalso
    -- the mask is that of an entry of D, or nought
    have key : ∀ (d' : List Ent), (∀ k e', entAt d' k = some e' → entAt d k = some e') → (xmD D d').testBit i = true → False := by
      intro d'
      induction d' with
      | nil => intro _ h; simp [xmD] at h
      | cons x d' ih' =>
        intro hin h
        simp only [xmD] at h
        have hold : ∀ k e', entAt d' k = some e' → entAt d k = some e' := fun k e' h1 => hin k e' (by rw [entAt_cons_old (entAt_lt h1)]; exact h1)
        cases hk : x.kd with
        | eff s M1 M2 =>
          simp only [hk] at h
          split at h
          · rename_i hD
            have := not_pre C hc he hi (hin d'.length x entAt_cons_new) h
            rw [hD] at this; cases this
          · exact ih' hold h
        | skip => simp only [hk] at h; exact ih' hold h
        | still s => simp only [hk] at h; exact ih' hold h
        | alloc k B => simp only [hk] at h; exact ih' hold h
    exact key d (fun _ _ h => h) hb

omit hc he hi hready in
/-- the last one of D that turned memory, and its mask -/
theorem last_spec (D : Nat → Bool) : ∀ (d' : List Ent), (∀ k e', entAt d' k = some e' → entAt d k = some e') →
    (lastD D d' = none ∧ xmD D d' = 0 ∧ ∀ k e', entAt d' k = some e' → e'.isEff = true → D k = false) ∨
    (∃ x ex, lastD D d' = some x ∧ entAt d' x = some ex ∧ ex.isEff = true ∧ D x = true ∧ xmD D d' = ex.m ∧ ∀ k e', entAt d' k = some e' → e'.isEff = true → D k = true → k ≤ x)
  | [], _ => .inl ⟨rfl, rfl, fun k e' h => by simp [entAt] at h⟩
  | x :: d', hin => by
    have hold : ∀ k e', entAt d' k = some e' → entAt d k = some e' := fun k e' h1 => hin k e' (by rw [entAt_cons_old (entAt_lt h1)]; exact h1)
    have hrec := last_spec D d' hold
    have up : (x.isEff = true → D d'.length = false) →
        ((lastD D d' = none ∧ xmD D d' = 0 ∧ ∀ k e', entAt d' k = some e' → e'.isEff = true → D k = false) ∨
          (∃ y ex, lastD D d' = some y ∧ entAt d' y = some ex ∧ ex.isEff = true ∧ D y = true ∧ xmD D d' = ex.m ∧ ∀ k e', entAt d' k = some e' → e'.isEff = true → D k = true → k ≤ y)) →
        ((lastD D d' = none ∧ xmD D d' = 0 ∧ ∀ k e', entAt (x :: d') k = some e' → e'.isEff = true → D k = false) ∨
          (∃ y ex, lastD D d' = some y ∧ entAt (x :: d') y = some ex ∧ ex.isEff = true ∧ D y = true ∧ xmD D d' = ex.m ∧ ∀ k e', entAt (x :: d') k = some e' → e'.isEff = true → D k = true → k ≤ y)) := by
      intro hx h
      have hback : ∀ k e', entAt (x :: d') k = some e' → e'.isEff = true → k = d'.length ∧ D k = false ∨ entAt d' k = some e' := by
        intro k e' h1 h2
        by_cases hk : k = d'.length
        · subst hk
          rw [entAt_cons_new] at h1
          cases h1
          exact .inl ⟨rfl, hx h2⟩
        · have := entAt_lt h1
          simp at this
          rw [entAt_cons_old (by omega)] at h1
          exact .inr h1
      rcases h with ⟨h1, h2, h3⟩ | ⟨y, ex, h1, h2, h3, h4, h5, h6⟩
      · refine .inl ⟨h1, h2, fun k e' h4 h5 => ?_⟩
        rcases hback k e' h4 h5 with ⟨_, h6⟩ | h6
        · exact h6
        · exact h3 k e' h6 h5
      · refine .inr ⟨y, ex, h1, by rw [entAt_cons_old (entAt_lt h2)]; exact h2, h3, h4, h5, fun k e' h7 h8 h9 => ?_⟩
        rcases hback k e' h7 h8 with ⟨_, h10⟩ | h10
        · rw [h9] at h10; cases h10
        · exact h6 k e' h10 h8 h9
    cases hk : x.kd with
    | eff s M1 M2 =>
      by_cases hD : D d'.length = true
      · refine .inr ⟨d'.length, x, by simp [lastD, hk, hD], entAt_cons_new, by simp [Ent.isEff, hk], hD, by simp [xmD, hk, hD], fun k e' h1 _ _ => by have := entAt_lt h1; simp at this; omega⟩
      · have := up (fun _ => by simpa using hD) hrec
        simpa [lastD, xmD, hk, hD] using this
    | skip => have := up (fun h => by simp [Ent.isEff, hk] at h) hrec; simpa [lastD, xmD, hk] using this
    | still s => have := up (fun h => by simp [Ent.isEff, hk] at h) hrec; simpa [lastD, xmD, hk] using this
    | alloc k B => have := up (fun h => by simp [Ent.isEff, hk] at h) hrec; simpa [lastD, xmD, hk] using this

theorem pos_ok : okPos e.m (lastD D d) (posOf M0 d) = true := by
  refine okPos_spec _ fun x xm M h1 h2 => ?_
  obtain ⟨ex, q1, q2⟩ := posOf_from h1
  have hD := ready_pre C hc he hi hready h2
  rcases last_spec C D d (fun _ _ h => h) with ⟨h3, h4, h5⟩ | ⟨y, ey, h3, h4, h5, h6, h7, h8⟩
  · rw [h5 x ex q1 q2] at hD; cases hD
  · exact ⟨y, h3, h8 x ex q1 q2 hD⟩

/-- A still operation has its value behind D. -/
theorem still_ok {s : SV} (hk : e.kd = .still s) : ∃ M', sreadA P e.tm.as M' (sevD D tm0 d) e.o = some s ∧ ∀ nm B, M'.get nm = some B → MD D M0 d nm = some B := by
  have ho := C.ents i e he
  have hsame := sevD_same C hc he hi hready
  cases hr : readsMem e.o with
  | false =>
    have hkd := ho.kd
    unfold KdOk at hkd
    simp only [hk] at hkd
    obtain ⟨_, M', hM'⟩ := hkd
    rw [sreadA_congr hsame, sreadA_nomem (M' := ⟨0, .nil⟩) hr] at hM'
    exact ⟨⟨0, .nil⟩, hM', fun nm B h => by simp [Mem.get, Tr.get] at h⟩
  | true =>
    have hx := xm_not C hc he hi hready
    obtain ⟨M', h1, h2⟩ := C.still i e s he hk hr _ _ _ (posOf_mem D M0 d) hx (pos_ok C hc he hi hready)
    rw [sreadA_congr hsame] at h2
    refine ⟨M', h2, fun nm B hB => ?_⟩
    obtain ⟨_, h3⟩ := insAl_spec _ _ _ h1
    rw [h3 nm] at hB
    unfold MD
    cases hg : rG (fun j => e.m.testBit j && !((xmD D d).testBit j)) d nm with
    | some B' =>
      rw [hg] at hB
      simp only [Option.some.injEq] at hB
      subst hB
      obtain ⟨k, e', ak, q1, q2, q3, q4⟩ := rG_some hg
      simp only [Bool.and_eq_true] at q3
      have := rG_of (sel := fun k => D k && !((xmD D d).testBit k)) (uniq C) q1 q2 (by simp only [Bool.and_eq_true]; exact ⟨ready_pre C hc he hi hready q3.1, q3.2⟩)
      rw [q4, this]
    | none =>
      rw [hg] at hB
      simp only [] at hB
      cases hg' : rG (fun k => D k && !((xmD D d).testBit k)) d nm with
      | none => exact hB
      | some B' =>
        obtain ⟨k, e', ak, q1, q2, q3, q4⟩ := rG_some hg'
        simp only [Bool.and_eq_true, Bool.not_eq_true'] at q3
        have := C.fresh k e' ak B' q1 q2 _ _ _ (posOf_mem D M0 d) q3.2
        rw [← q4] at this
        rw [this] at hB; cases hB

omit hready hc hi in
theorem put_tm {ρ ρ' : Rho} {a : Act} {v : Value} (hsz : a.tmps.size = tm0.sz) (htm : ∀ t, Rep ρ' env (tmS D tm0 d t) (a.tmps.getD t undef)) (hv : Rep ρ' env e.val v)
    (hn : ∀ t, e.o.dst = some t → ∀ k e', entAt d k = some e' → e'.o.dst = some t → k ≠ i → (D k = true ↔ k < i)) :
    (a.put e.o.dst v).tmps.size = tm0.sz ∧ ∀ t, Rep ρ' env (tmS (addD D i) tm0 d t) ((a.put e.o.dst v).tmps.getD t undef) := by
  have ho := C.ents i e he
  refine ⟨?_, fun t => ?_⟩
  · rw [← hsz]; unfold Act.put; split <;> simp
  · by_cases ht : e.o.dst = some t
    · rw [tmS_add he t ht (hn t ht), ht]
      have : t < a.tmps.size := by rw [hsz]; exact ho.dst t ht
      simpa [Act.put, this] using hv
    · rw [tmS_other he t ht]
      cases hd : e.o.dst with
      | none => simpa [Act.put] using htm t
      | some dd =>
        have hne : dd ≠ t := fun h => ht (by rw [hd, h])
        simpa [Act.put, Array.getElem?_setIfInBounds_ne hne] using htm t

/-- ONE STEP of a region in whatever order. -/
theorem inv_step {ops : Array Oper} (hops : ops.toList = os) (hih : CallOk P env ih) (hA : AsOk env tm0.as) {L : Nat} (hL : ∀ k e', entAt d k = some e' → e'.b ≤ L) {ρ0 ρ : Rho} {w0 w : World} {a0 a : Act} {K : Act → World → Prop} {Q : Exit → Act → World → Prop}
    (I : Inv env L tm0 M0 d ρ0 w0 a0 D ρ a w) (hK : ∀ ρ' a' w', Inv env L tm0 M0 d ρ0 w0 a0 (addD D i) ρ' a' w' → K a' w') : wpOp P ops Q i K a w := by
  have ho := C.ents i e he
  have hAe : AsOk env e.tm.as := by rw [ho.as]; exact hA
  have hsame := sevD_same C hc he hi hready
  have hev := sevD_ok (env := env) I.tm
  have hop : ops[i]? = some e.o := by have := ho.op; rw [← hops] at this; simpa using this
  have hdstN : ∀ t, e.o.dst = some t → t ∈ namesO os e.o := fun t ht => by simp [namesO, ht]
  have hn : ∀ t, e.o.dst = some t → ∀ k e', entAt d k = some e' → e'.o.dst = some t → k ≠ i → (D k = true ↔ k < i) := fun t ht k e' h1 h2 _ => names_iff C hc he hi hready (hdstN t ht) k e' h1 h2
  have hguard : Region.wanted e.o (yielded ops a.tmps) = (match e.kd with | .skip => false | _ => true) := by
    have hg := ho.guard
    rw [← hops] at hg
    refine guardS_spec' (env := env) (ρ := ρ) hg fun j want p t h1 h2 h3 => ?_
    rw [← tm_same C hc he hi hready (t := t) (by
      simp only [namesO, List.mem_append, h1]
      rw [← hops, h2]
      simp [h3])]
    exact I.tm t
  have hfreeI : ∀ nm, e.a ≤ nm → nm < e.b → ρ nm = none := fun nm h1 h2 => I.free nm (Nat.le_trans ho.lo h1) (Nat.lt_of_lt_of_le h2 (hL i e he)) fun k e' h3 h4 h5 => by
    have hne : k ≠ i := fun h => by rw [h, hi] at h4; cases h4
    rcases sep_both C h3 he hne with h | h <;> omega
  simp only [wpOp, hop, hguard]
  -- what stays
  have hfree' : ∀ ρ' : Rho, (∀ nm, nm < e.a ∨ e.b ≤ nm → ρ' nm = ρ nm) → ∀ nm, M0.next ≤ nm → nm < L → (∀ j e', entAt d j = some e' → addD D i j = true → ¬ (e'.a ≤ nm ∧ nm < e'.b)) → ρ' nm = none := by
    intro ρ' hρ nm h1 h2 h3
    have h4 := h3 i e he addD_same
    rw [hρ nm (by omega)]
    exact I.free nm h1 h2 fun j e' h5 h6 => h3 j e' h5 (by simp [addD, h6])
  have hMDsame : e.isEff = false → (∀ ak B, e.kd ≠ .alloc ak B) → MD (addD D i) M0 d = MD D M0 d := by
    intro h1 h2
    funext nm
    have hb := baseD_add_non (M0 := M0) (D := D) (i := i) (d := d) fun e' he' => by rw [he] at he'; cases he'; exact h1
    unfold MD
    rw [hb.1, hb.2]
    have : rG (fun k => addD D i k && !((xmD D d).testBit k)) d nm = rG (fun k => D k && !((xmD D d).testBit k)) d nm := rG_congr fun k e' ak B q1 q2 => by
      by_cases hk : k = i
      · subst hk; rw [he] at q1; cases q1; exact absurd q2 (h2 ak B)
      · rw [addD_ne hk]
    rw [this]
  cases hk : e.kd with
  | skip =>
    simp only [hk, Bool.false_eq_true, if_false]
    obtain ⟨p1, p2⟩ := put_tm C he (v := undef) I.sz I.tm (resolve_spec hAe (by simp only [Ent.raw, hk]; exact rep_undef)) hn (ρ := ρ)
    refine hK ρ _ w ⟨p1, p2, ?_, hfree' ρ fun _ _ => rfl, (put_defers _ _ _).trans I.defers⟩
    rw [hMDsame (by simp [Ent.isEff, hk]) (by simp [hk])]
    exact I.post
  | still s =>
    simp only [hk, if_true]
    obtain ⟨M', h1, h2⟩ := still_ok C hc he hi hready hk
    have H : Holds ρ env M'.get w := I.post.holds.less h2
    obtain ⟨v, r1, r2⟩ := run_sreadA (P := P) hAe H hev h1
    refine .inl ?_
    simp only [Oper.wp, r1, Oper.upon_value]
    obtain ⟨p1, p2⟩ := put_tm C he (v := v) I.sz I.tm (resolve_spec hAe (by simpa only [Ent.raw, hk] using r2)) hn (ρ := ρ)
    refine hK ρ _ w ⟨p1, p2, ?_, hfree' ρ fun _ _ => rfl, (put_defers _ _ _).trans I.defers⟩
    rw [hMDsame (by simp [Ent.isEff, hk]) (by simp [hk])]
    exact I.post
  | alloc ak B =>
    simp only [hk, if_true]
    have hkd := ho.kd
    unfold KdOk at hkd
    simp only [hk] at hkd
    obtain ⟨hal, hb⟩ := hkd
    rw [salloc_congr hsame] at hal
    obtain ⟨v, w1, cells, lo, hi', hw, r1, r2, r3⟩ := run_salloc (w := w) (P := P) hev hal
    refine .inl ?_
    simp only [Oper.wp, r1, Oper.upon_value]
    have hnone : ρ e.a = none := hfreeI e.a (Nat.le_refl _) (by omega)
    have hsub : Sub ρ (rset ρ e.a (w.heap.size, cells.size)) := rset_sub hnone
    have hb0 := baseD_add_non (M0 := M0) (D := D) (i := i) (d := d) fun e' he' => by rw [he] at he'; cases he'; simp [Ent.isEff, hk]
    have hMD : ∀ m, MD (addD D i) M0 d m = if m = e.a then some B else MD D M0 d m := by
      intro m
      unfold MD
      rw [hb0.1, hb0.2]
      by_cases hm : m = e.a
      · subst hm
        have := rG_of (sel := fun k => addD D i k && !((xmD D d).testBit k)) (uniq C) he hk (by simp only [addD_same, xm_not C hc he hi hready, Bool.not_false, Bool.and_self])
        simp [this]
      · rw [if_neg hm]
        have : rG (fun k => addD D i k && !((xmD D d).testBit k)) d m = rG (fun k => D k && !((xmD D d).testBit k)) d m := by
          cases hg : rG (fun k => D k && !((xmD D d).testBit k)) d m with
          | some B' =>
            obtain ⟨k, e', ak', q1, q2, q3, q4⟩ := rG_some hg
            simp only [Bool.and_eq_true] at q3
            rw [q4]
            exact rG_of (uniq C) q1 q2 (by simp only [Bool.and_eq_true]; exact ⟨by simp [addD, q3.1], q3.2⟩)
          | none =>
            refine rG_none fun k e' ak' B' q1 q2 q3 => ?_
            by_cases hki : k = i
            · subst hki; rw [he] at q1; cases q1; exact absurd q3 hm
            · rw [addD_ne hki]
              cases hs : (D k && !((xmD D d).testBit k)) with
              | false => rfl
              | true =>
                have := rG_of (sel := fun k => D k && !((xmD D d).testBit k)) (uniq C) q1 q2 hs
                rw [← q3, hg] at this; cases this
        rw [this]
    have hh : w1.heap = w.heap := by rcases hw with rfl | rfl <;> rfl
    have hosw : w1.os = w.os ∧ w1.tape = w.tape ∧ w1.output = w.output := by rcases hw with rfl | rfl <;> exact ⟨rfl, rfl, rfl⟩
    have H' := holds_new (w := w1) (I.post.holds.of_heap hh) hnone hMD r2
    rw [hh] at H'
    obtain ⟨p1, p2⟩ := put_tm C he (v := v) (ρ' := rset ρ e.a (w.heap.size, cells.size)) I.sz (fun t => Rep.mono hsub _ _ (I.tm t)) (resolve_spec hAe (by simpa only [Ent.raw, hk] using r3 _ _ (rset_same _ _ _))) hn (ρ := ρ)
    have hρ : ∀ nm, nm < e.a ∨ e.b ≤ nm → rset ρ e.a (w.heap.size, cells.size) nm = ρ nm := fun nm h => by
      have : ¬ nm = e.a := by omega
      simp [rset, this]
    refine hK _ _ _ ⟨p1, p2, ?_, hfree' _ hρ, (put_defers _ _ _).trans I.defers⟩
    have hstep : Post env e.b ρ (MD D M0 d) e.a w (rset ρ e.a (w.heap.size, cells.size)) (MD (addD D i) M0 d) e.b (w1.alloc (.cells cells B.elem (lo, hi'))) := by
      refine ⟨hρ, H', by omega, fun nm h1 h2 => absurd h2 (by omega), fun k hk' _ => ?_, fun m B' b n h1 h2 => ?_, by rw [World.size_alloc, hh]; omega, hosw.1, hosw.2.1, hosw.2.2⟩
      · rw [← hh] at hk' ⊢
        exact heap_alloc_old _ _ _ hk'
      · rw [hMD m] at h1
        by_cases hm : m = e.a
        · subst hm; rw [rset_same] at h2; cases h2; exact .inl (Nat.le_refl _)
        · rw [if_neg hm] at h1
          simp only [rset, hm, if_false] at h2
          exact .inr ⟨m, B', n, h1, h2⟩
    exact I.post.trans_in hstep ho.lo (hL i e he)
  | eff s M1 M2 =>
    simp only [hk, if_true]
    have hkd := ho.kd
    unfold KdOk at hkd
    simp only [hk] at hkd
    obtain ⟨hst, hn1, hn2, hg1, hchain⟩ := hkd
    rw [opStep_congr hsame] at hst
    have heffs : ∀ k e', entAt d k = some e' → e'.isEff = true → (D k = true ↔ k < i) := by
      intro k e' h1 h2
      by_cases hki : k = i
      · subst hki; rw [hi]; simp
      · by_cases hlt : k < i
        · have := ready_pre C hc he hi hready (hchain k e' h1 h2 hlt)
          simp [this, hlt]
        · have hk' := (C.ents k e' h1).kd
          obtain ⟨s', M1', M2', hke⟩ := isEff_kd h2
          unfold KdOk at hk'
          simp only [hke] at hk'
          have := not_pre C hc he hi h1 (hk'.2.2.2.2 i e he (by simp [Ent.isEff, hk]) (by omega))
          simp [this, hlt]
    obtain ⟨hbase, hxm⟩ := ho.base D heffs
    obtain ⟨hbase', hxm'⟩ := baseD_add_eff (M0 := M0) (D := D) he hk (fun k e' h1 h2 _ => heffs k e' h1 h2)
    -- what the last one waited for, this one waits for
    have hxsub : ∀ k, e.xm.testBit k = true → e.m.testBit k = true := by
      intro k hb
      rw [← hxm] at hb
      rcases last_spec C D d (fun _ _ h => h) with ⟨h3, h4, h5⟩ | ⟨y, ey, h3, h4, h5, h6, h7, h8⟩
      · rw [h4] at hb; simp at hb
      · rw [h7] at hb
        have hyi := (heffs y ey h4 h5).1 h6
        have := pre_trans C.hm i y k (by simp [pre, ho.mask, hchain y ey h4 h5 hyi]) (by simp [pre, (C.ents y ey h4).mask, hb])
        simpa [pre, ho.mask] using this
    let r : Get := rG (fun k => D k && !(e.m.testBit k)) d
    have hM1 : orG r M1.get = MD D M0 d := by
      funext nm
      unfold MD orG
      rw [hbase, hxm, hg1 nm]
      cases hr : r nm with
      | some B =>
        obtain ⟨k, e', ak, q1, q2, q3, q4⟩ := rG_some hr
        simp only [Bool.and_eq_true, Bool.not_eq_true'] at q3
        have hx0 : e.xm.testBit k = false := by
          cases hb : e.xm.testBit k with
          | false => rfl
          | true => rw [hxsub k hb] at q3; cases q3.2
        have := rG_of (sel := fun k => D k && !(e.xm.testBit k)) (uniq C) q1 q2 (by simp [q3.1, hx0])
        rw [q4, this]
      | none =>
        simp only []
        cases hr2 : rG (fun k => e.m.testBit k && !(e.xm.testBit k)) d nm with
        | some B =>
          obtain ⟨k, e', ak, q1, q2, q3, q4⟩ := rG_some hr2
          simp only [Bool.and_eq_true] at q3
          have := rG_of (sel := fun k => D k && !(e.xm.testBit k)) (uniq C) q1 q2 (by simp only [Bool.and_eq_true]; exact ⟨ready_pre C hc he hi hready q3.1, q3.2⟩)
          rw [q4, this]
        | none =>
          have : rG (fun k => D k && !(e.xm.testBit k)) d nm = none := by
            cases hr3 : rG (fun k => D k && !(e.xm.testBit k)) d nm with
            | none => rfl
            | some B =>
              obtain ⟨k, e', ak, q1, q2, q3, q4⟩ := rG_some hr3
              simp only [Bool.and_eq_true, Bool.not_eq_true'] at q3
              cases hmk : e.m.testBit k with
              | true =>
                have := rG_of (sel := fun k => e.m.testBit k && !(e.xm.testBit k)) (uniq C) q1 q2 (by simp [hmk, q3.2])
                rw [q4, this] at hr2; cases hr2
              | false =>
                have : r e'.a = some B := rG_of (sel := fun k => D k && !(e.m.testBit k)) (uniq C) q1 q2 (by simp [hmk, q3.1])
                rw [q4, this] at hr; cases hr
          rw [this]
    have hMr : ∀ nm B, r nm = some B → M1.get nm = none ∧ M2.get nm = none := by
      intro nm B hr
      obtain ⟨k, e', ak, q1, q2, q3, q4⟩ := rG_some hr
      simp only [Bool.and_eq_true, Bool.not_eq_true'] at q3
      have hx0 : e.xm.testBit k = false := by
        cases hb : e.xm.testBit k with
        | false => rfl
        | true => rw [hxsub k hb] at q3; cases q3.2
      constructor
      · rw [hg1 nm]
        have h1 : rG (fun k => e.m.testBit k && !(e.xm.testBit k)) d nm = none := rG_none fun k' e2 ak' B' s1 s2 s3 => by
          have := uniq C k k' e' e2 ak B ak' B' q1 s1 q2 s2 (by rw [← q4, s3])
          subst this
          simp [q3.2]
        rw [h1]
        have hpos := posOf_mem D M0 d
        rw [hbase, hxm] at hpos
        have := C.fresh k e' ak B q1 q2 _ _ _ hpos hx0
        rw [q4]; exact this
      · have hpos := posOf_eff (M0 := M0) he hk
        have := C.fresh k e' ak B q1 q2 _ _ _ hpos q3.2
        rw [q4]; exact this
    have hHall : Holds ρ env (orG r M1.get) w := by rw [hM1]; exact I.post.holds
    have H1 : Holds ρ env M1.get w := hHall.less fun nm B hB => by
      unfold orG
      cases hr : r nm with
      | none => exact hB
      | some B' => rw [(hMr nm B' hr).1] at hB; cases hB
    have hfr : Free e.b ρ M1.next := fun nm h1 h2 => hfreeI nm (by omega) h2
    refine .inl (opStep_sound (L := e.b) hih hAe hst H1 hfr (by omega) hev fun v w' ρ' hv hp => ?_)
    have hpb := hp.beside hfr hHall (fun nm B h => (hMr nm B h).1) (fun nm B h => (hMr nm B h).2)
    rw [hM1] at hpb
    have hM2 : orG r M2.get = MD (addD D i) M0 d := by
      funext nm
      unfold MD orG
      rw [hbase', hxm']
      have : rG (fun k => addD D i k && !(e.m.testBit k)) d nm = r nm := rG_congr fun k e' ak B q1 q2 => by
        by_cases hki : k = i
        · subst hki; rw [he] at q1; cases q1; rw [hk] at q2; cases q2
        · rw [addD_ne hki]
      rw [this]
      rfl
    rw [hM2, hn1, hn2] at hpb
    have hsub := hpb.sub (fun nm h1 h2 => hfreeI nm h1 h2)
    obtain ⟨p1, p2⟩ := put_tm C he (v := v) (ρ' := ρ') I.sz (fun t => Rep.mono hsub _ _ (I.tm t)) (resolve_spec hAe (by simpa only [Ent.raw, hk] using hv)) hn (ρ := ρ)
    refine hK ρ' _ w' ⟨p1, p2, I.post.trans_in hpb ho.lo (hL i e he), hfree' ρ' hpb.ext, (put_defers _ _ _).trans I.defers⟩

end
end
end Go.Sym
