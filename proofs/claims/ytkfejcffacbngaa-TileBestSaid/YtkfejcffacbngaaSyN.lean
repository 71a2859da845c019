/- The log of a drawn region: what is known of each entry. -/
import Derived.Test.YtkfejcffacbngaaSyM
namespace Go.Sym
open Go Go.RowKit
set_option linter.unusedVariables false

theorem entAt_lt : ∀ {d : List Ent} {i : Nat} {e : Ent}, entAt d i = some e → i < d.length
  | [], i, e, h => by simp [entAt] at h
  | e' :: d, i, e, h => by
    simp only [entAt] at h
    split at h
    · rename_i hi; simp [hi]
    · have := entAt_lt h; simp; omega

theorem entAt_cons_old {d : List Ent} {e : Ent} {i : Nat} (h : i < d.length) : entAt (e :: d) i = entAt d i := by
  simp only [entAt]; rw [if_neg (by omega)]

theorem entAt_cons_new {d : List Ent} {e : Ent} : entAt (e :: d) d.length = some e := by simp [entAt]

theorem entAt_some : ∀ {d : List Ent} {i : Nat}, i < d.length → ∃ e, entAt d i = some e
  | [], i, h => by simp at h
  | e :: d, i, h => by
    by_cases hi : i = d.length
    · exact ⟨e, by simp [entAt, hi]⟩
    · have : i < d.length := by simp at h; omega
      obtain ⟨e', he⟩ := entAt_some this
      exact ⟨e', by rw [entAt_cons_old this]; exact he⟩

def KdOk (P : Program) (ih : Ih) (d : List Ent) (i : Nat) (e : Ent) : Prop :=
  match e.kd with
  | .skip => e.b = e.a
  | .still s => e.b = e.a ∧ ∃ M', sreadA P e.tm.as M' (sev e.tm) e.o = some s
  | .alloc k B => salloc P (sev e.tm) e.o = some (B, k) ∧ e.b = e.a + 1
  | .eff s M1 M2 => opStep P ih e.tm.as M1 (sev e.tm) e.o = .ok (s, M2) ∧ M1.next = e.a ∧ M2.next = e.b ∧
      (∀ nm, M1.get nm = match rG (fun k => e.m.testBit k && !(e.xm.testBit k)) d nm with | some B => some B | none => e.base.get nm) ∧
      (∀ k e', entAt d k = some e' → e'.isEff = true → k < i → e.m.testBit k = true)

structure EntOk (P : Program) (ih : Ih) (os : List Oper) (ms : List Nat) (tm0 : Tm) (M0 : Mem) (d : List Ent) (i : Nat) (e : Ent) : Prop where
  op : os[i]? = some e.o
  mask : ms[i]? = some e.m
  guard : guardS os e.tm e.o = some (match e.kd with | .skip => false | _ => true)
  as : e.tm.as = tm0.as
  dst : ∀ t, e.o.dst = some t → t < tm0.sz
  tm : ∀ (D : Nat → Bool) t, (∀ k e', entAt d k = some e' → e'.o.dst = some t → (D k = true ↔ k < i)) → tmS D tm0 d t = e.tm.get t
  base : ∀ (D : Nat → Bool), (∀ k e', entAt d k = some e' → e'.isEff = true → (D k = true ↔ k < i)) → baseD D M0 d = e.base ∧ xmD D d = e.xm
  ab : e.a ≤ e.b
  lo : M0.next ≤ e.a
  sep : ∀ k e', entAt d k = some e' → k < i → e'.b ≤ e.a
  kd : KdOk P ih d i e

structure LogOk (P : Program) (ih : Ih) (os : List Oper) (ms : List Nat) (tm0 : Tm) (M0 : Mem) (s : St) : Prop where
  ents : ∀ i e, entAt s.done i = some e → EntOk P ih os ms tm0 M0 s.done i e
  tm : ∀ (D : Nat → Bool) t, (∀ k e', entAt s.done k = some e' → e'.o.dst = some t → D k = true) → tmS D tm0 s.done t = s.tm.get t
  sz : s.tm.sz = tm0.sz
  as : s.tm.as = tm0.as
  base : ∀ (D : Nat → Bool), (∀ k e', entAt s.done k = some e' → e'.isEff = true → D k = true) → baseD D M0 s.done = s.base ∧ xmD D s.done = s.xm
  cnt : M0.next ≤ s.cnt
  below : ∀ k e', entAt s.done k = some e' → e'.b ≤ s.cnt
  al : s.al = alOf s.done
  last : match s.xi with
    | none => ∀ k e', entAt s.done k = some e' → e'.isEff = false
    | some x => ∃ ex, entAt s.done x = some ex ∧ ex.isEff = true ∧ ∀ k e', entAt s.done k = some e' → e'.isEff = true → k ≤ x

section
variable {P : Program} {ih : Ih} {os : List Oper} {ms : List Nat} {tm0 : Tm} {M0 : Mem}

theorem isEff_kd {e : Ent} (h : e.isEff = true) : ∃ s M1 M2, e.kd = .eff s M1 M2 := by
  unfold Ent.isEff at h
  split at h
  · rename_i s M1 M2 hk; exact ⟨s, M1, M2, hk⟩
  · cases h

theorem baseD_cons {D : Nat → Bool} {e : Ent} {d : List Ent} (h : e.isEff = true → D d.length = false) : baseD D M0 (e :: d) = baseD D M0 d ∧ xmD D (e :: d) = xmD D d := by
  simp only [baseD, xmD]
  cases hk : e.kd with
  | eff s M1 M2 =>
    have := h (by simp [Ent.isEff, hk])
    simp [this]
  | _ => exact ⟨rfl, rfl⟩

/-- An entry stays what it was when the log grows. -/
theorem EntOk.grow (hm : masks os = some ms) {d : List Ent} {i : Nat} {e e' : Ent} (hi : entAt d i = some e) (h : EntOk P ih os ms tm0 M0 d i e) : EntOk P ih os ms tm0 M0 (e' :: d) i e := by
  have hlt := entAt_lt hi
  have hold : ∀ k e2, entAt (e' :: d) k = some e2 → k < i → entAt d k = some e2 := fun k e2 h1 h2 => by rwa [entAt_cons_old (by omega)] at h1
  refine ⟨h.op, h.mask, h.guard, h.as, h.dst, fun D t hD => ?_, fun D hD => ?_, h.ab, h.lo, fun k e2 h1 h2 => h.sep k e2 (hold k e2 h1 h2) h2, ?_⟩
  · have h1 := h.tm D t fun k e2 h2 h3 => hD k e2 (by rw [entAt_cons_old (entAt_lt h2)]; exact h2) h3
    simp only [tmS]
    rw [if_neg]
    · exact h1
    · rintro ⟨h2, h3⟩
      have := (hD d.length e' entAt_cons_new h3).1 h2
      omega
  · have h1 := h.base D fun k e2 h2 h3 => hD k e2 (by rw [entAt_cons_old (entAt_lt h2)]; exact h2) h3
    have h2 : e'.isEff = true → D d.length = false := fun he => by
      cases hd : D d.length with
      | false => rfl
      | true => have := (hD d.length e' entAt_cons_new he).1 hd; omega
    rw [(baseD_cons h2).1, (baseD_cons (M0 := M0) h2).2]
    exact h1
  · have hkd := h.kd
    unfold KdOk at hkd ⊢
    cases hk : e.kd with
    | skip => simpa [hk] using hkd
    | still s => simpa [hk] using hkd
    | alloc k B => simpa [hk] using hkd
    | eff s M1 M2 =>
      simp only [hk] at hkd ⊢
      obtain ⟨q1, q2, q3, q4, q5⟩ := hkd
      refine ⟨q1, q2, q3, fun nm => ?_, fun k e2 h1 h2 h3 => q5 k e2 (hold k e2 h1 h3) h2 h3⟩
      rw [q4 nm]
      have hsel : (e.m.testBit d.length && !(e.xm.testBit d.length)) = false := by
        cases hb : e.m.testBit d.length with
        | false => rfl
        | true =>
          have := pre_lt hm i d.length (by simp [pre, h.mask, hb])
          omega
      have : rG (fun k => e.m.testBit k && !(e.xm.testBit k)) (e' :: d) nm = rG (fun k => e.m.testBit k && !(e.xm.testBit k)) d nm := by
        simp only [rG]
        cases e'.kd with
        | alloc k B => simp [hsel]
        | _ => rfl
      rw [this]

theorem chained_spec (hm : masks os = some ms) {s : St} (hs : LogOk P ih os ms tm0 M0 s) {i m : Nat} (hi : ms[i]? = some m) (h : chained m s.xi = true) :
    ∀ k e', entAt s.done k = some e' → e'.isEff = true → m.testBit k = true := by
  intro k e' h1 h2
  have hl := hs.last
  cases hx : s.xi with
  | none => rw [hx] at hl; simp only [] at hl; rw [hl k e' h1] at h2; cases h2
  | some x =>
    rw [hx] at hl
    simp only [] at hl
    obtain ⟨ex, q1, q2, q3⟩ := hl
    rw [hx] at h
    have hmx : m.testBit x = true := h
    have hk := q3 k e' h1 h2
    by_cases e : k = x
    · rw [e]; exact hmx
    · have hok := hs.ents x ex q1
      have hkd := hok.kd
      obtain ⟨s', M1, M2, hke⟩ := isEff_kd q2
      unfold KdOk at hkd
      simp only [hke] at hkd
      have h3 := hkd.2.2.2.2 k e' h1 h2 (by omega)
      have := pre_trans hm i x k (by simp [pre, hi, hmx]) (by simp [pre, hok.mask, h3])
      simpa [pre, hi] using this

/-- Adding an entry. -/
theorem LogOk.add (hm : masks os = some ms) {s s' : St} {e : Ent} (hs : LogOk P ih os ms tm0 M0 s) (hop : os[s.done.length]? = some e.o) (hmask : ms[s.done.length]? = some e.m)
    (hd : s'.done = e :: s.done) (htm : e.tm = s.tm) (hbase : e.base = s.base) (hxm : e.xm = s.xm) (ha : e.a = s.cnt) (hb : e.b = s'.cnt) (hab : e.a ≤ e.b)
    (hguard : guardS os s.tm e.o = some (match e.kd with | .skip => false | _ => true)) (hput : s.tm.put e.o.dst e.raw = some s'.tm)
    (hal : s'.al = alOf (e :: s.done))
    (hkd : match e.kd with
      | .skip => e.b = e.a ∧ s'.base = s.base ∧ s'.xm = s.xm ∧ s'.xi = s.xi
      | .still v => (e.b = e.a ∧ ∃ M', sreadA P e.tm.as M' (sev e.tm) e.o = some v) ∧ s'.base = s.base ∧ s'.xm = s.xm ∧ s'.xi = s.xi
      | .alloc k B => (salloc P (sev e.tm) e.o = some (B, k) ∧ e.b = e.a + 1) ∧ s'.base = s.base ∧ s'.xm = s.xm ∧ s'.xi = s.xi
      | .eff v M1 M2 => (opStep P ih e.tm.as M1 (sev e.tm) e.o = .ok (v, M2) ∧ M1.next = e.a ∧ M2.next = e.b ∧
          (∀ nm, M1.get nm = match rG (fun k => e.m.testBit k && !(e.xm.testBit k)) s.done nm with | some B => some B | none => e.base.get nm) ∧ chained e.m s.xi = true) ∧
          s'.base = M2 ∧ s'.xm = e.m ∧ s'.xi = some s.done.length) :
    LogOk P ih os ms tm0 M0 s' := by
  obtain ⟨p1, p2, p3, p4⟩ := Tm.put_spec hput
  have hval : e.val = resolve s.tm.as e.raw := by rw [Ent.val, htm]
  have hnone : ∀ (D : Nat → Bool), e.isEff = false → baseD D M0 (e :: s.done) = baseD D M0 s.done ∧ xmD D (e :: s.done) = xmD D s.done := fun D h => baseD_cons fun h' => by rw [h] at h'; cases h'
  have hnew : EntOk P ih os ms tm0 M0 (e :: s.done) s.done.length e := by
    refine ⟨hop, hmask, by rw [htm]; exact hguard, by rw [htm]; exact hs.as, fun t ht => by rw [← hs.sz]; exact p2 t ht, fun D t hD => ?_, fun D hD => ?_, hab, by rw [ha]; exact hs.cnt, fun k e2 h1 h2 => ?_, ?_⟩
    · simp only [tmS]
      rw [if_neg]
      · rw [htm]
        exact hs.tm D t fun k e2 h2 h3 => (hD k e2 (by rw [entAt_cons_old (entAt_lt h2)]; exact h2) h3).2 (entAt_lt h2)
      · rintro ⟨h2, h3⟩
        have := (hD s.done.length e entAt_cons_new h3).1 h2
        omega
    · have h2 : e.isEff = true → D s.done.length = false := fun he => by
        cases hd' : D s.done.length with
        | false => rfl
        | true => have := (hD s.done.length e entAt_cons_new he).1 hd'; omega
      rw [(baseD_cons h2).1, (baseD_cons (M0 := M0) h2).2, hbase, hxm]
      exact hs.base D fun k e2 h3 h4 => (hD k e2 (by rw [entAt_cons_old (entAt_lt h3)]; exact h3) h4).2 (entAt_lt h3)
    · rw [entAt_cons_old h2] at h1
      rw [ha]
      exact hs.below k e2 h1
    · unfold KdOk
      cases hk : e.kd with
      | skip => simp only [hk] at hkd ⊢; exact hkd.1
      | still v => simp only [hk] at hkd ⊢; exact hkd.1
      | alloc k B => simp only [hk] at hkd ⊢; exact hkd.1
      | eff v M1 M2 =>
        simp only [hk] at hkd ⊢
        obtain ⟨⟨q1, q2, q3, q4, q5⟩, _⟩ := hkd
        refine ⟨q1, q2, q3, fun nm => ?_, fun k e2 h1 h2 h3 => ?_⟩
        · rw [q4 nm]; simp only [rG, hk]
        · rw [entAt_cons_old h3] at h1
          exact chained_spec hm hs hmask q5 k e2 h1 h2
  refine ⟨?_, ?_, by rw [p1]; exact hs.sz, by rw [p4]; exact hs.as, ?_, by rw [← hb]; have := hs.cnt; omega, ?_, by rw [hal, hd], ?_⟩
  · intro i e2 h1
    rw [hd] at h1 ⊢
    by_cases h : i = s.done.length
    · subst h
      rw [entAt_cons_new] at h1
      cases h1
      exact hnew
    · have hlt := entAt_lt h1
      have hlt : i < s.done.length := by simp at hlt; omega
      rw [entAt_cons_old hlt] at h1
      exact (hs.ents i e2 h1).grow hm h1
  · intro D t hD
    rw [hd] at hD ⊢
    simp only [tmS]
    rw [p3 t]
    by_cases h : e.o.dst = some t
    · rw [if_pos ⟨hD _ _ entAt_cons_new h, h⟩, if_pos h, hval]
    · rw [if_neg (fun h' => h h'.2), if_neg h]
      exact hs.tm D t fun k e2 h2 h3 => hD k e2 (by rw [entAt_cons_old (entAt_lt h2)]; exact h2) h3
  · intro D hD
    rw [hd] at hD ⊢
    have hsD := hs.base D fun k e2 h3 h4 => hD k e2 (by rw [entAt_cons_old (entAt_lt h3)]; exact h3) h4
    cases hk : e.kd with
    | skip => simp only [hk] at hkd; rw [(hnone D (by simp [Ent.isEff, hk])).1, (hnone D (by simp [Ent.isEff, hk])).2, hkd.2.1, hkd.2.2.1]; exact hsD
    | still v => simp only [hk] at hkd; rw [(hnone D (by simp [Ent.isEff, hk])).1, (hnone D (by simp [Ent.isEff, hk])).2, hkd.2.1, hkd.2.2.1]; exact hsD
    | alloc k B => simp only [hk] at hkd; rw [(hnone D (by simp [Ent.isEff, hk])).1, (hnone D (by simp [Ent.isEff, hk])).2, hkd.2.1, hkd.2.2.1]; exact hsD
    | eff v M1 M2 =>
      simp only [hk] at hkd
      have := hD _ _ entAt_cons_new (by simp [Ent.isEff, hk])
      simp only [baseD, xmD, hk, this, if_true]
      exact ⟨hkd.2.1.symm, hkd.2.2.1.symm⟩
  · intro k e2 h1
    rw [hd] at h1
    by_cases h : k = s.done.length
    · subst h
      rw [entAt_cons_new] at h1
      cases h1
      omega
    · have hlt := entAt_lt h1
      have hlt : k < s.done.length := by simp at hlt; omega
      rw [entAt_cons_old hlt] at h1
      have := hs.below k e2 h1
      omega
  · have hl := hs.last
    have hsame : e.isEff = false → s'.xi = s.xi → (match s'.xi with
        | none => ∀ k e', entAt s'.done k = some e' → e'.isEff = false
        | some x => ∃ ex, entAt s'.done x = some ex ∧ ex.isEff = true ∧ ∀ k e', entAt s'.done k = some e' → e'.isEff = true → k ≤ x) := by
      intro he hx
      rw [hx, hd]
      have hback : ∀ k e', entAt (e :: s.done) k = some e' → e'.isEff = true → entAt s.done k = some e' := by
        intro k e' h1 h2
        by_cases h : k = s.done.length
        · subst h; rw [entAt_cons_new] at h1; cases h1; rw [he] at h2; cases h2
        · have hlt := entAt_lt h1
          have hlt : k < s.done.length := by simp at hlt; omega
          rwa [entAt_cons_old hlt] at h1
      cases hxi : s.xi with
      | none =>
        rw [hxi] at hl
        simp only [] at hl ⊢
        intro k e' h1
        cases he' : e'.isEff with
        | false => rfl
        | true => rw [hl k e' (hback k e' h1 he')] at he'; cases he'
      | some x =>
        rw [hxi] at hl
        simp only [] at hl ⊢
        obtain ⟨ex, q1, q2, q3⟩ := hl
        exact ⟨ex, by rw [entAt_cons_old (entAt_lt q1)]; exact q1, q2, fun k e' h1 h2 => q3 k e' (hback k e' h1 h2) h2⟩
    cases hk : e.kd with
    | skip => simp only [hk] at hkd; exact hsame (by simp [Ent.isEff, hk]) hkd.2.2.2
    | still v => simp only [hk] at hkd; exact hsame (by simp [Ent.isEff, hk]) hkd.2.2.2
    | alloc k B => simp only [hk] at hkd; exact hsame (by simp [Ent.isEff, hk]) hkd.2.2.2
    | eff v M1 M2 =>
      simp only [hk] at hkd
      rw [hkd.2.2.2, hd]
      exact ⟨e, entAt_cons_new, by simp [Ent.isEff, hk], fun k e' h1 _ => by have := entAt_lt h1; simp at this; omega⟩

theorem drawStep_ok (hm : masks os = some ms) {s s' : St} {o : Oper} {m : Nat} (hs : LogOk P ih os ms tm0 M0 s) (hop : os[s.done.length]? = some o) (hmask : ms[s.done.length]? = some m)
    (h : drawStep P ih os s.done.length o m s = .ok s') : LogOk P ih os ms tm0 M0 s' ∧ s'.done.length = s.done.length + 1 := by
  unfold drawStep at h
  split at h
  · split at h <;> cases h
  · rename_i hg
    split at h
    · rename_i tm' hp
      cases h
      exact ⟨LogOk.add hm (e := ⟨o, m, s.tm, .skip, s.base, s.xm, s.cnt, s.cnt⟩) hs hop hmask rfl rfl rfl rfl rfl rfl (Nat.le_refl _) hg hp (by simp [alOf, hs.al]) ⟨rfl, rfl, rfl, rfl⟩, by simp⟩
    · cases h
  · rename_i hg
    split at h
    · cases h
    · rename_i M1 hins
      rw [hs.al] at hins
      obtain ⟨q1, q2⟩ := insAl_spec _ _ _ hins
      split at h
      · rename_i v hr
        split at h
        · rename_i tm' hp
          cases h
          exact ⟨LogOk.add hm (e := ⟨o, m, s.tm, .still v, s.base, s.xm, s.cnt, s.cnt⟩) hs hop hmask rfl rfl rfl rfl rfl rfl (Nat.le_refl _) hg hp (by simp [alOf, hs.al]) ⟨⟨rfl, _, hr⟩, rfl, rfl, rfl⟩, by simp⟩
        · cases h
      · split at h
        · rename_i B k hr
          split at h
          · rename_i tm' hp
            cases h
            exact ⟨LogOk.add hm (e := ⟨o, m, s.tm, .alloc k B, s.base, s.xm, s.cnt, Nat.succ s.cnt⟩) hs hop hmask rfl rfl rfl rfl rfl rfl (Nat.le_succ _) hg hp (by simp [alOf, hs.al]) ⟨⟨hr, rfl⟩, rfl, rfl, rfl⟩, by simp⟩
          · cases h
        · split at h
          · cases h
          split at h
          · cases h
          · rename_i hc
            split at h
            · rename_i v M2 hr
              split at h
              · rename_i tm' hp
                cases h
                have hle := opStep_le hr
                exact ⟨LogOk.add hm (e := ⟨o, m, s.tm, .eff v ⟨s.cnt, M1.tr⟩ M2, s.base, s.xm, s.cnt, M2.next⟩) hs hop hmask rfl rfl rfl rfl rfl rfl hle hg hp (by simp [alOf, hs.al])
                  ⟨⟨hr, rfl, rfl, fun nm => q2 nm, hc⟩, rfl, rfl, rfl⟩, by simp⟩
              · cases h
            · cases h
            · cases h

theorem drawGo_ok (hm : masks os = some ms) : ∀ (l : List Oper) (lm : List Nat) (i : Nat) (s s' : St), LogOk P ih os ms tm0 M0 s → s.done.length = i → os.drop i = l → ms.drop i = lm → drawGo P ih os l lm i s = .ok s' →
    LogOk P ih os ms tm0 M0 s' ∧ s'.done.length = os.length
  | [], lm, i, s, s', hs, hi, hl, hlm, h => by
    simp only [drawGo, Rz.ok.injEq] at h
    subst h
    refine ⟨hs, ?_⟩
    have h1 : os.length ≤ i := by
      have := congrArg List.length hl
      simp at this; omega
    -- the log is never longer
    rcases Nat.lt_or_ge os.length i with h2 | h2
    · obtain ⟨e, he⟩ := entAt_some (d := s.done) (i := os.length) (by omega)
      have h3 := (hs.ents _ _ he).op
      simp at h3
    · omega
  | o :: l, [], i, s, s', hs, hi, hl, hlm, h => by simp [drawGo] at h
  | o :: l, m :: lm, i, s, s', hs, hi, hl, hlm, h => by
    subst hi
    simp only [drawGo] at h
    split at h
    · rename_i s1 h1
      have hop : os[s.done.length]? = some o := by
        have : (os.drop s.done.length)[0]? = some o := by rw [hl]; rfl
        rw [List.getElem?_drop] at this; simpa using this
      have hmask : ms[s.done.length]? = some m := by
        have : (ms.drop s.done.length)[0]? = some m := by rw [hlm]; rfl
        rw [List.getElem?_drop] at this; simpa using this
      obtain ⟨q1, q2⟩ := drawStep_ok hm hs hop hmask h1
      refine drawGo_ok hm l lm _ s1 s' q1 q2 ?_ ?_ h
      · have : (os.drop s.done.length).drop 1 = l := by rw [hl]; rfl
        rwa [List.drop_drop] at this
      · have : (ms.drop s.done.length).drop 1 = lm := by rw [hlm]; rfl
        rwa [List.drop_drop] at this
    · cases h
    · cases h

theorem logOk_start (tm : Tm) (M : Mem) : LogOk P ih os ms tm M ⟨[], tm, M.next, M, none, 0, []⟩ :=
  ⟨fun i e h => by simp [entAt] at h, fun D t _ => rfl, rfl, rfl, fun D _ => ⟨rfl, rfl⟩, Nat.le_refl _, fun k e h => by simp [entAt] at h, rfl, fun k e h => by simp [entAt] at h⟩

end
end Go.Sym
