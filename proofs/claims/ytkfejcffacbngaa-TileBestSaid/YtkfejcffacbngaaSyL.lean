/- One operation of a region; regions in the order of the text. -/
import Derived.Test.YtkfejcffacbngaaSyU
namespace Go.Sym
open Go Go.RowKit
set_option linter.unusedVariables false

/-- The slots of a frame: how many, what they hold; what is assumed. -/
structure Tm where
  sz : Nat
  tr : Tr SV
  as : As
  deriving Inhabited

def Tm.get (tm : Tm) (t : Nat) : SV :=
  match tm.tr.get t with
  | some s => s
  | none => .tuple []

def Tm.put (tm : Tm) (dst : Option Tmp) (s : SV) : Option Tm :=
  match dst with
  | none => some tm
  | some d => match Nat.ble (Nat.succ d) tm.sz with
    | true => match Tr.put fuelT tm.tr d (some (resolve tm.as s)) with
      | some t => some ⟨tm.sz, t, tm.as⟩
      | none => none
    | false => none

def sev (tm : Tm) : Operand → Option SV
  | .tmp t => some (tm.get t)
  | .const v => ofV v
  | .global g => some (.gptr g 0)
  | .func f => some (.func (.func f) [] [])

/-- Is an operation wanted? (none: not known) -/
def guardS (ops : List Oper) (tm : Tm) (o : Oper) : Option Bool :=
  match o.guard with
  | none => some true
  | some (j, want) => match nth ops j with
    | some p => match p.dst with
      | some t => match tm.get t with
        | .bool b => some (match b, want with | true, true => true | false, false => true | _, _ => false)
        | .tuple _ => some false
        | _ => none
      | none => some false
    | none => some false

/-- the test on which a guard hangs -/
def guardF (ops : List Oper) (tm : Tm) (o : Oper) : Option BE :=
  match o.guard with
  | none => none
  | some (j, _) => match nth ops j with
    | some p => match p.dst with
      | some t => match tm.get t with
        | .sbool b => some (coreB b)
        | _ => none
      | none => none
    | none => none

abbrev Ih := FuncId → List SV → Mem → Rz (SV × Mem)

structure TmOk (ρ : Rho) (env : Env) (tm : Tm) (a : Act) : Prop where
  as : AsOk env tm.as
  size : a.tmps.size = tm.sz
  get : ∀ t, Rep ρ env (tm.get t) (a.tmps.getD t undef)

section
variable {ρ ρ' : Rho} {env : Env} {w : World} {P : Program} {L : Nat} {tm tm' : Tm} {a : Act}

theorem TmOk.mono (h : TmOk ρ env tm a) (hs : Sub ρ ρ') : TmOk ρ' env tm a := ⟨h.as, h.size, fun t => Rep.mono hs _ _ (h.get t)⟩

theorem TmOk.ev (h : TmOk ρ env tm a) : EvOk ρ env (sev tm) a.eval := by
  intro x s hx
  cases x with
  | tmp t => simp only [sev, Option.some.injEq] at hx; subst hx; exact h.get t
  | const v => simp only [sev] at hx; exact (ofV_spec hx).1
  | global g => simp only [sev, Option.some.injEq] at hx; subst hx; simp [Rep, Act.eval]
  | func f =>
    simp only [sev, Option.some.injEq] at hx; subst hx
    simp only [Rep, Act.eval]
    exact ⟨_, _, rfl, by simp [RepL], by simp [RepL]⟩

theorem Tm.put_spec {dst : Option Tmp} {s : SV} (h : tm.put dst s = some tm') : tm'.sz = tm.sz ∧ (∀ d, dst = some d → d < tm.sz) ∧ (∀ t, tm'.get t = if dst = some t then resolve tm.as s else tm.get t) ∧ tm'.as = tm.as := by
  unfold Tm.put at h
  split at h
  · cases h; exact ⟨rfl, (fun d hd => by cases hd), (fun t => by simp), rfl⟩
  · rename_i d
    split at h
    · rename_i hb
      have hb := ble_true hb
      split at h
      · rename_i t' ht
        cases h
        refine ⟨rfl, (fun d' hd => by cases hd; exact hb), (fun t => ?_), rfl⟩
        simp only [Tm.get]
        rw [Tr.get_put _ _ _ _ _ ht t]
        by_cases e : t = d
        · subst e; simp
        · have : ¬ d = t := fun h => e h.symm
          simp [e, this]
      · cases h
    · cases h

theorem TmOk.put {dst : Option Tmp} {s : SV} {v : Value} (h : TmOk ρ env tm a) (hp : tm.put dst s = some tm') (hr : Rep ρ env s v) : TmOk ρ env tm' (a.put dst v) := by
  obtain ⟨h1, h2, h3, h4⟩ := Tm.put_spec hp
  refine ⟨by rw [h4]; exact h.as, ?_, fun t => ?_⟩
  · rw [h1, ← h.size]
    unfold Act.put; split <;> simp
  · rw [h3 t]
    cases dst with
    | none => simpa [Act.put] using h.get t
    | some d =>
      have hd : d < a.tmps.size := by rw [h.size]; exact h2 d rfl
      by_cases e : d = t
      · subst e; have := resolve_spec h.as hr; simpa [Act.put, hd] using this
      · have : ¬ (some d = some t) := fun h => e (by injection h)
        rw [if_neg this]
        simpa [Act.put, Array.getElem?_setIfInBounds_ne e] using h.get t

theorem put_defers (a : Act) (dst : Option Tmp) (v : Value) : (a.put dst v).defers = a.defers := by cases dst <;> rfl

theorem guardS_spec {ops : Array Oper} {o : Oper} {b : Bool} (h : guardS ops.toList tm o = some b) (ht : TmOk ρ env tm a) : Region.wanted o (yielded ops a.tmps) = b := by
  unfold guardS at h
  unfold Region.wanted
  split at h
  · rename_i hg; cases h; rw [hg]
  · rename_i j want hg
    rw [hg]
    simp only []
    rw [nth_eq] at h
    unfold yielded
    split at h
    · rename_i p hp
      have hp' : ops[j]? = some p := by simpa using hp
      rw [hp']
      simp only [Option.bind_some]
      split at h
      · rename_i t hd
        rw [hd]
        simp only [Option.bind_some]
        have hrep := ht.get t
        have hget : ∀ v, a.tmps.getD t undef = v → (∀ b', v ≠ .bool b' → (match a.tmps[t]? with | some (.bool b) => some b | _ => none) = (none : Option Bool) ∨ v = .bool b') → True := fun _ _ _ => trivial
        split at h
        · rename_i b' htm
          rw [htm] at hrep
          simp only [Rep] at hrep
          have hv : a.tmps[t]? = some (.bool b') := by
            cases hx : a.tmps[t]? with
            | none => simp [hx, undef] at hrep
            | some v => simp [hx] at hrep; rw [hrep]
          rw [hv]
          cases h
          cases b' <;> cases want <;> rfl
        · rename_i l htm
          cases h
          rw [htm] at hrep
          simp only [Rep] at hrep
          obtain ⟨vs, hv, _⟩ := hrep
          cases hx : a.tmps[t]? with
          | none => cases want <;> rfl
          | some v => simp [hx] at hv; subst hv; cases want <;> rfl
        · cases h
      · rename_i hd
        cases h
        rw [hd]
        cases want <;> rfl
    · rename_i hp
      cases h
      have hp' : ops[j]? = none := by simpa using hp
      rw [hp']
      cases want <;> rfl

end

/-! ### One operation -/

def opStep (P : Program) (ih : Ih) (as : As) (M : Mem) (ev : Ev) (o : Oper) : Rz (SV × Mem) :=
  match sreadA P as M ev o with
  | some s => .ok (s, M)
  | none => match salloc P ev o with
    | some (B, k) => match M.new B with
      | some (nm, M') => .ok (k.mk nm, M')
      | none => .no
    | none => match seffA P as M ev o with
      | some r => .ok r
      | none => match needB P as M ev o with
        | some b => .fork b
        | none => match o.op with
          | .call c => match scall P M ev c with
            | some (f, args) => match ih f args M with
              | .ok (s, M') => match Nat.ble M.next M'.next with
                | true => .ok (s, M')
                | false => .no
              | .fork b => .fork b
              | .no => .no
            | none => .no
          | _ => .no

/-- What a call is known to do. -/
def CallOk (P : Program) (env : Env) (ih : Ih) : Prop :=
  ∀ f args M s M', ih f args M = .ok (s, M') → ∀ L ρ w (vs : Array Value), RepL ρ env args vs.toList → Holds ρ env M.get w → Free L ρ M.next → M'.next ≤ L →
    Calls P f vs w fun e w' => ∃ v ρ', e = .returned v ∧ Rep ρ' env s v ∧ Post env L ρ M.get M.next w ρ' M'.get M'.next w'

section
variable {ρ ρ' : Rho} {env : Env} {w : World} {P : Program} {L : Nat} {tm tm' : Tm} {a : Act} {ih : Ih}

theorem opStep_sound (hih : CallOk P env ih) {as : As} (hA : AsOk env as) {M M' : Mem} {ev : Ev} {o : Oper} {s : SV} {K : Act → World → Prop} {Q : Exit → Act → World → Prop} (h : opStep P ih as M ev o = .ok (s, M')) (H : Holds ρ env M.get w) (hd : Free L ρ M.next)
    (hL : M'.next ≤ L) (hev : EvOk ρ env ev a.eval) (hK : ∀ v w' ρ', Rep ρ' env s v → Post env L ρ M.get M.next w ρ' M'.get M'.next w' → K (a.put o.dst v) w') : o.wp P a w K Q := by
  unfold opStep at h
  split at h
  · rename_i s' hs
    cases h
    obtain ⟨v, h1, h2⟩ := run_sreadA (P := P) hA H hev hs
    simp only [Oper.wp, h1, Oper.upon_value]
    exact hK v w ρ h2 (Post.refl H hd)
  · split at h
    · rename_i B k hs
      split at h
      · rename_i nm M2 hM
        cases h
        obtain ⟨v, w0, cells, lo, hi, hw, h1, h2, h3⟩ := run_salloc (w := w) (P := P) hev hs
        have hpost := post_alloc (w0 := w0) H hd hL (fun _ _ h => h) rfl hM hw h2
        simp only [Oper.wp, h1, Oper.upon_value]
        exact hK v _ _ (h3 _ _ (rset_same _ _ _)) hpost
      · cases h
    · split at h
      · rename_i r hs
        cases h
        obtain ⟨nx, v, w', ρ', h1, h2, h3, h4⟩ := run_seffA (P := P) hA H hd hL hev hs
        simp only [Oper.wp, h1]
        rcases h2 with rfl | ⟨rfl, rfl⟩
        · exact hK v w' ρ' h3 h4
        · exact hK undef w' ρ' h3 h4
      · split at h
        · cases h
        split at h
        · rename_i c ho
          split at h
          · rename_i f args hc
            split at h
            · rename_i s' M2 hi
              split at h
              · cases h
                obtain ⟨vs, h1, h2⟩ := run_scall (w := w) (P := P) H ho hev hc
                simp only [Oper.wp, h1, Oper.upon_enter]
                refine Calls.mono (hih _ _ _ _ _ hi L ρ w vs h2 H hd hL) fun e w' ⟨v, ρ', he, hr, hp⟩ => ?_
                subst he
                exact hK v w' ρ' hr hp
              · cases h
            · cases h
            · cases h
          · cases h
        · cases h

theorem seff_le {M M' : Mem} {ev : Ev} {o : Oper} {s : SV} (h : seff P M ev o = some (s, M')) : M.next ≤ M'.next := by
  have hset : ∀ {M M' : Mem} {nm : Nat} {B : Option Blk}, M.set nm B = some M' → M.next ≤ M'.next := fun h => by rw [(Mem.set_spec h).1]; exact Nat.le_refl _
  unfold seff at h
  split at h
  · repeat' split at h
    all_goals first | (cases h; done) | (cases h; exact Nat.le_refl _)
  · split at h
    · split at h
      · rename_i M2 hst
        cases h
        unfold sstore at hst
        split at hst
        · split at hst
          · split at hst
            · split at hst
              · exact hset hst
              · cases hst
            · cases hst
          · cases hst
        · cases hst
      · cases h
    · cases h
  · split at h
    · split at h
      · unfold sappend at h
        split at h
        · split at h
          · split at h
            · split at h
              · cases h
              · split at h
                · split at h
                  · cases h; exact Nat.le_refl _
                  · obtain ⟨_, _, _, _, _, _, h1, _⟩ := sgrow_le h; omega
                · split at h
                  · cases h
                  · split at h
                    · split at h
                      · split at h
                        · rename_i M2 hM; cases h; exact hset hM
                        · cases h
                      · cases h
                    · split at h
                      · obtain ⟨_, _, _, _, _, _, h1, _⟩ := sgrow_le h; omega
                      · cases h
                · split at h
                  · cases h; exact Nat.le_refl _
                  · split at h
                    · cases h
                    · split at h
                      · split at h
                        · rename_i M1 hM
                          obtain ⟨_, _, _, _, _, _, h1, _⟩ := sgrow_le h
                          have := hset hM
                          omega
                        · cases h
                      · cases h
                · cases h
            · cases h
          · cases h
        · cases h
      · unfold scopy at h
        split at h
        · split at h
          · split at h
            · split at h
              · split at h
                · cases h; exact Nat.le_refl _
                · cases h; exact Nat.le_refl _
                · cases h
              · split at h
                · split at h
                  · split at h
                    · split at h
                      · rename_i M2 hM; cases h; exact hset hM
                      · cases h
                    · cases h
                  · cases h
                · cases h
            · cases h
          · cases h
        · cases h
      · cases h
    · cases h
  · cases h

theorem seffA_le {as : As} {M M' : Mem} {ev : Ev} {o : Oper} {s : SV} (h : seffA P as M ev o = some (s, M')) : M.next ≤ M'.next := by
  unfold seffA at h
  split at h
  · rename_i r hr; cases h; exact seff_le hr
  · split at h <;> try (cases h; done)
    rename_i hx
    split at h <;> try (cases h; done)
    cases h
    exact xe_le hx

theorem opStep_le {as : As} {M M' : Mem} {ev : Ev} {o : Oper} {s : SV} (h : opStep P ih as M ev o = .ok (s, M')) : M.next ≤ M'.next := by
  unfold opStep at h
  split at h
  · cases h; exact Nat.le_refl _
  · split at h
    · split at h
      · rename_i nm M2 hM
        cases h
        obtain ⟨_, h1, _⟩ := Mem.new_spec hM
        omega
      · cases h
    · split at h
      · rename_i r hs
        cases h
        exact seffA_le hs
      · split at h
        · cases h
        · split at h
          · split at h
            · split at h
              · split at h
                · rename_i hb; cases h; exact ble_true hb
                · cases h
              · cases h
              · cases h
            · cases h
          · cases h

/-! ### A region in the order of its text -/

def runSeq (P : Program) (ih : Ih) (ops : List Oper) : List Oper → Tm → Mem → Rz (Tm × Mem)
  | [], tm, M => .ok (tm, M)
  | o :: rest, tm, M =>
    match guardS ops tm o with
    | none => match guardF ops tm o with
      | some b => .fork b
      | none => .no
    | some false => match tm.put o.dst (.tuple []) with
      | some tm' => runSeq P ih ops rest tm' M
      | none => .no
    | some true => match opStep P ih tm.as M (sev tm) o with
      | .ok (s, M') => match tm.put o.dst s with
        | some tm' => runSeq P ih ops rest tm' M'
        | none => .no
      | .fork b => .fork b
      | .no => .no

theorem runSeq_le {ops : List Oper} : ∀ (l : List Oper) (tm : Tm) (M : Mem) (tm' : Tm) (M' : Mem), runSeq P ih ops l tm M = .ok (tm', M') → M.next ≤ M'.next
  | [], tm, M, tm', M', h => by simp only [runSeq, Rz.ok.injEq, Prod.mk.injEq] at h; rw [h.2]; exact Nat.le_refl _
  | o :: rest, tm, M, tm', M', h => by
    simp only [runSeq] at h
    split at h
    · split at h <;> cases h
    · split at h
      · exact runSeq_le rest _ _ _ _ h
      · cases h
    · split at h
      · rename_i s M1 hs
        split at h
        · exact Nat.le_trans (opStep_le hs) (runSeq_le rest _ _ _ _ h)
        · cases h
      · cases h
      · cases h

theorem rep_undef {ρ : Rho} {env : Env} : Rep ρ env (.tuple []) undef := by
  simp only [Rep, undef]
  exact ⟨_, rfl, by simp [RepL]⟩

theorem runSeq_sound (hih : CallOk P env ih) {ops : Array Oper} {Q : Exit → Act → World → Prop} : ∀ (l : List Oper) (k : Nat) (ρ : Rho) (w : World) (a : Act) (tm tm' : Tm) (M M' : Mem), ops.toList.drop k = l →
    runSeq P ih ops.toList l tm M = .ok (tm', M') → Holds ρ env M.get w → Free L ρ M.next → M'.next ≤ L → TmOk ρ env tm a →
    (∀ ρ' w' a', TmOk ρ' env tm' a' → Post env L ρ M.get M.next w ρ' M'.get M'.next w' → a'.defers = a.defers → Q .normal a' w') →
    wpOps P ops Q (List.range' k l.length) a w
  | [], k, ρ, w, a, tm, tm', M, M', hl, h, H, hd, hL, ht, hQ => by
    simp only [runSeq, Rz.ok.injEq, Prod.mk.injEq] at h
    obtain ⟨rfl, rfl⟩ := h
    simp only [List.length_nil, List.range'_zero, wpOps]
    exact hQ ρ w a ht (Post.refl H hd) rfl
  | o :: rest, k, ρ, w, a, tm, tm', M, M', hl, h, H, hd, hL, ht, hQ => by
    have hk : ops[k]? = some o := by
      have : (ops.toList.drop k)[0]? = some o := by rw [hl]; rfl
      rw [List.getElem?_drop] at this
      simpa using this
    have hrest : ops.toList.drop (k + 1) = rest := by
      have : (ops.toList.drop k).drop 1 = rest := by rw [hl]; rfl
      rwa [List.drop_drop] at this
    simp only [List.length_cons, List.range'_succ]
    rw [wpOps_cons]
    simp only [wpOp, hk]
    simp only [runSeq] at h
    split at h
    · split at h <;> cases h
    · rename_i hg
      rw [guardS_spec hg ht]
      simp only [Bool.false_eq_true, if_false]
      split at h
      · rename_i tm1 hp
        refine runSeq_sound hih rest (k + 1) ρ w _ tm1 tm' M M' hrest h H hd hL (ht.put hp rep_undef) fun ρ' w' a' h1 h2 h3 => hQ ρ' w' a' h1 h2 (h3.trans (put_defers _ _ _))
      · cases h
    · rename_i hg
      rw [guardS_spec hg ht]
      simp only [if_true]
      split at h
      · rename_i s M1 hs
        split at h
        · rename_i tm1 hp
          have hle := runSeq_le rest _ _ _ _ h
          refine .inl (opStep_sound hih ht.as hs H hd (Nat.le_trans hle hL) ht.ev fun v w1 ρ1 hr hpost => ?_)
          have hsub := hpost.sub hd
          refine runSeq_sound hih rest (k + 1) ρ1 w1 _ tm1 tm' M1 M' hrest h hpost.holds (fun nm h1 h2 => hpost.dom nm h1 h2) hL ((ht.mono hsub).put hp hr) fun ρ' w' a' h1 h2 h3 => ?_
          exact hQ ρ' w' a' h1 (hpost.trans h2) (h3.trans (put_defers _ _ _))
        · cases h
      · cases h
      · cases h

end
end Go.Sym
