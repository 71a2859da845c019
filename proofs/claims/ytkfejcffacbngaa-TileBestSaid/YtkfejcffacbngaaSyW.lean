/- Templates of states: slots and memory over atoms. -/
import Derived.Test.YtkfejcffacbngaaSyV
namespace Go.Sym
open Go Go.RowKit
set_option linter.unusedVariables false
set_option linter.unusedSectionVars false

/-- A state over atoms: how many slots, those that matter, memory that matters, the next name, what is assumed. -/
structure Tp where
  sz : Nat
  st : List (Nat × SV)
  mm : List (Nat × Blk)
  nx : Nat
  as : As

def putAll {α : Type} : List (Nat × α) → Tr α → Option (Tr α)
  | [], t => some t
  | (k, x) :: l, t => match putAll l t with
    | some t' => Tr.put fuelT t' k (some x)
    | none => none

theorem putAll_get {α : Type} : ∀ (l : List (Nat × α)) (t t' : Tr α), putAll l t = some t' → ∀ m, t'.get m = match lk l m with | some x => some x | none => t.get m
  | [], t, t', h, m => by simp only [putAll, Option.some.injEq] at h; subst h; rfl
  | (k, x) :: l, t, t', h, m => by
    simp only [putAll] at h
    split at h
    · rename_i t1 h1
      rw [Tr.get_put _ _ _ _ _ h m, putAll_get l t t1 h1 m]
      simp only [lk]
      by_cases hm : m = k
      · subst hm
        have : Nat.beq m m = true := by rw [nat_beq]; simp
        rw [if_pos rfl, this]
      · have : Nat.beq k m = false := by rw [nat_beq]; simp; omega
        rw [if_neg hm, this]
    · cases h

/-- slots of which nothing is known -/
def anys : Nat → List (Nat × SV) → List (Nat × SV)
  | 0, l => l
  | n + 1, l => anys n ((n, .any) :: l)

theorem anys_lk : ∀ (n : Nat) (l : List (Nat × SV)) (t : Nat), lk (anys n l) t = if t < n then some .any else lk l t
  | 0, l, t => by simp [anys]
  | n + 1, l, t => by
    simp only [anys]
    rw [anys_lk n]
    by_cases h : t < n
    · have : t < n + 1 := by omega
      rw [if_pos h, if_pos this]
    · rw [if_neg h]
      simp only [lk]
      by_cases h2 : t = n
      · subst h2
        have : Nat.beq t t = true := by rw [nat_beq]; simp
        rw [this, if_pos (by omega)]
      · have : Nat.beq n t = false := by rw [nat_beq]; simp; omega
        rw [this, if_neg (by omega)]

def Tp.tr (T : Tp) : Option (Tr SV) :=
  match putAll (anys T.sz []) .nil with
  | some t => putAll T.st t
  | none => none

def stLt (n : Nat) : List (Nat × SV) → Bool
  | [] => true
  | (t, _) :: l => Nat.ble (Nat.succ t) n && stLt n l
theorem stLt_spec {n : Nat} : ∀ {l : List (Nat × SV)}, stLt n l = true → ∀ t, n ≤ t → lk l t = none
  | [], _, t, _ => rfl
  | (j, x) :: l, hx, t, h => by
    simp only [stLt, Bool.and_eq_true] at hx
    have := ble_true hx.1
    simp only [lk]
    have hb : Nat.beq j t = false := by rw [nat_beq]; simp; omega
    rw [hb]
    exact stLt_spec hx.2 t h
def mmLt (n : Nat) : List (Nat × Blk) → Bool
  | [] => true
  | (t, _) :: l => Nat.ble (Nat.succ t) n && mmLt n l
theorem mmLt_spec {n : Nat} : ∀ {l : List (Nat × Blk)}, mmLt n l = true → ∀ t B, lk l t = some B → t < n
  | [], _, t, B, h => by simp [lk] at h
  | (j, x) :: l, hx, t, B, h => by
    simp only [mmLt, Bool.and_eq_true] at hx
    simp only [lk] at h
    split at h
    · rename_i hb; rw [← Nat.eq_of_beq_eq_true hb]; exact ble_true hx.1
    · exact mmLt_spec hx.2 t B h

/-- The state as the run has it. -/
def Tp.mk' (T : Tp) : Option (Tm × Mem) :=
  match T.tr, putAll T.mm .nil, stLt T.sz T.st, mmLt T.nx T.mm with
  | some t, some m, true, true => some (⟨T.sz, t, T.as⟩, ⟨T.nx, m⟩)
  | _, _, _, _ => none

section
variable {env : Env} {σ : Sb} {ρ : Rho} {w : World}

theorem Tp.mk_spec {T : Tp} {tm : Tm} {M : Mem} (h : T.mk' = some (tm, M)) : tm.sz = T.sz ∧ tm.as = T.as ∧ M.next = T.nx ∧ (∀ t, tm.get t = match lk T.st t with | some s => s | none => if t < T.sz then .any else .tuple []) ∧ (∀ nm, M.get nm = lk T.mm nm) ∧
    (∀ t, T.sz ≤ t → lk T.st t = none) ∧ (∀ t B, lk T.mm t = some B → t < T.nx) := by
  unfold Tp.mk' at h
  split at h
  · rename_i t m ht hm h1 h2
    cases h
    refine ⟨rfl, rfl, rfl, fun i => ?_, fun nm => ?_, stLt_spec h1, mmLt_spec h2⟩
    · unfold Tp.tr at ht
      split at ht
      · rename_i t0 ht0
        simp only [Tm.get]
        rw [putAll_get _ _ _ ht i]
        cases hs : lk T.st i with
        | some s => rfl
        | none =>
          simp only
          rw [putAll_get _ _ _ ht0 i, anys_lk]
          by_cases hi : i < T.sz
          · simp [hi]
          · simp [hi, lk, Tr.get_nil]
      · cases ht
    · simp only [Mem.get]
      rw [putAll_get _ _ _ hm nm]
      cases lk T.mm nm <;> simp [Tr.get_nil]
  · cases h

/-! ### A state that the template stands for -/

def cellsM (σ : Sb) (BT B : Blk) : Nat → Nat → Bool
  | _, 0 => true
  | i, n + 1 => (match BT.at i, B.at i with
    | some p, some s => svM σ p s && p.one
    | _, _ => false) && cellsM σ BT B (Nat.succ i) n

def blkM (σ : Sb) (BT B : Blk) : Bool :=
  Nat.beq BT.elem B.elem && (match BT.row, B.row with
  | some (rT, cT, ks), some (r, c, ks') => Nat.beq BT.size 0 && (BT.opn && (ieEq (rT.sb σ) r && (ieEq (cT.sb σ) c && ksEq ks ks')))
  | none, none => Nat.beq BT.size B.size && ((match BT.opn, B.opn with | true, _ => true | false, false => true | _, _ => false) && cellsM σ BT B 0 BT.size)
  | _, _ => false)

theorem cellsM_spec {BT B : Blk} : ∀ (n i : Nat), cellsM σ BT B i n = true → ∀ j, i ≤ j → j < i + n → ∃ p s, BT.at j = some p ∧ B.at j = some s ∧ svM σ p s = true ∧ p.one = true
  | 0, i, h, j, h1, h2 => by omega
  | n + 1, i, h, j, h1, h2 => by
    simp only [cellsM, Bool.and_eq_true] at h
    obtain ⟨h3, h4⟩ := h
    by_cases hj : j = i
    · subst hj
      split at h3
      · rename_i p s hp hs
        simp only [Bool.and_eq_true] at h3
        exact ⟨p, s, hp, hs, h3.1, h3.2⟩
      · cases h3
    · exact cellsM_spec n _ h4 j (by simp only [Nat.succ_eq_add_one]; omega) (by simp only [Nat.succ_eq_add_one]; omega)

theorem blkM_spec (hσ : σ.ok = true) {BT B : Blk} {b n : Nat} (h : blkM σ BT B = true) (hC : Cellar ρ env B b n w) : Cellar (rhoT σ ρ) (upd env σ) BT b n w := by
  unfold blkM at h
  simp only [Bool.and_eq_true] at h
  obtain ⟨he, h⟩ := h
  have he := Nat.eq_of_beq_eq_true he
  obtain ⟨⟨cells, lo, hi, k1, k2, k3, k4⟩, hle, hsh, hrw⟩ := hC
  split at h
  · rename_i rT cT ks r c ks' h1 h2
    simp only [Bool.and_eq_true] at h
    obtain ⟨q1, q2, q3, q4, q5⟩ := h
    have q1 := Nat.eq_of_beq_eq_true q1
    have q5 := ksEq_spec q5
    subst q5
    obtain ⟨⟨p1, p2⟩, p3⟩ := hrw r c ks h2
    refine ⟨⟨cells, lo, hi, by rw [he]; exact k1, k2, k3, fun i hi => by omega⟩, by omega, (fun h => by rw [q2] at h; cases h), fun r' c' ks' hr => ?_⟩
    rw [h1] at hr
    simp only [Option.some.injEq, Prod.mk.injEq] at hr
    obtain ⟨rfl, rfl, rfl⟩ := hr
    have e1 : rT.reval (upd env σ) = r.reval env := by rw [← IE.sb_reval hσ, ieEq_spec _ _ q3]
    have e2 : cT.eval (upd env σ) = c.eval env := by rw [← IE.sb_eval hσ, ieEq_spec _ _ q4]
    exact ⟨⟨q1, p2.1, by rw [e2]; exact p2.2.1, by rw [e1, e2]; exact p2.2.2⟩, by rw [e1]; exact p3⟩
  · rename_i h1 h2
    simp only [Bool.and_eq_true] at h
    obtain ⟨q1, q2, q3⟩ := h
    have q1 := Nat.eq_of_beq_eq_true q1
    refine ⟨⟨cells, lo, hi, by rw [he]; exact k1, k2, k3, fun i hi => ?_⟩, by omega, fun hop => ?_, fun r' c' ks' hr => by rw [h1] at hr; cases hr⟩
    · obtain ⟨p, s, z1, z2, z3, z4⟩ := cellsM_spec _ _ q3 i (by omega) (by omega)
      obtain ⟨s', v, y1, y2, y3, y4⟩ := k4 i (by omega)
      rw [z2] at y1; cases y1
      exact ⟨p, v, z1, z4, y3, svM_spec hσ _ _ _ z3 y4⟩
    · rw [hop] at q2
      cases hb : B.opn with
      | false => rw [q1]; exact hsh hb
      | true => rw [hb] at q2; cases q2
  · cases h

def memM (σ : Sb) (M : Mem) : List (Nat × Blk) → Bool
  | [] => true
  | (nT, BT) :: l => (match lk σ.nm nT with
    | some nm => match M.get nm with
      | some B => blkM σ BT B
      | none => false
    | none => false) && memM σ M l

theorem memM_spec {M : Mem} : ∀ {l : List (Nat × Blk)}, memM σ M l = true → ∀ nT BT, lk l nT = some BT → ∃ nm B, lk σ.nm nT = some nm ∧ M.get nm = some B ∧ blkM σ BT B = true
  | [], _, nT, BT, h => by simp [lk] at h
  | (j, x) :: l, hx, nT, BT, h => by
    simp only [memM, Bool.and_eq_true] at hx
    simp only [lk] at h
    split at h
    · rename_i hb
      have := Nat.eq_of_beq_eq_true hb
      subst this
      cases h
      have h1 := hx.1
      split at h1
      · rename_i nm hnm
        split at h1
        · rename_i B hB; exact ⟨nm, B, hnm, hB, h1⟩
        · cases h1
      · cases h1
    · exact memM_spec hx.2 nT BT h

/-- no two names stand for one -/
def notIn (m : Nat) : List (Nat × Nat) → Bool
  | [] => true
  | (_, x) :: l => (match Nat.beq x m with | true => false | false => true) && notIn m l
def distinct : List (Nat × Nat) → Bool
  | [] => true
  | (_, m) :: l => notIn m l && distinct l
theorem notIn_spec {m : Nat} : ∀ {l : List (Nat × Nat)}, notIn m l = true → ∀ k, lk l k ≠ some m
  | [], _, k, h => by simp [lk] at h
  | (j, x) :: l, hx, k, h => by
    simp only [notIn, Bool.and_eq_true] at hx
    simp only [lk] at h
    split at h
    · cases h
      have h1 := hx.1
      have : Nat.beq m m = true := by rw [nat_beq]; simp
      rw [this] at h1; cases h1
    · exact notIn_spec hx.2 k h
theorem distinct_spec : ∀ {l : List (Nat × Nat)}, distinct l = true → ∀ a b m, lk l a = some m → lk l b = some m → a = b
  | [], _, a, b, m, h, _ => by simp [lk] at h
  | (j, x) :: l, hx, a, b, m, h1, h2 => by
    simp only [distinct, Bool.and_eq_true] at hx
    simp only [lk] at h1 h2
    split at h1 <;> split at h2
    · rename_i _ q1 _ q2
      rw [← Nat.eq_of_beq_eq_true q1, ← Nat.eq_of_beq_eq_true q2]
    · cases h1; exact absurd h2 (notIn_spec hx.1 b)
    · cases h2; exact absurd h1 (notIn_spec hx.1 a)
    · exact distinct_spec hx.2 a b m h1 h2

def stM (σ : Sb) (tm : Tm) : List (Nat × SV) → Bool
  | [] => true
  | (t, p) :: l => svM σ p (tm.get t) && stM σ tm l
theorem stM_spec {tm : Tm} : ∀ {l : List (Nat × SV)}, stM σ tm l = true → ∀ t p, lk l t = some p → svM σ p (tm.get t) = true
  | [], _, t, p, h => by simp [lk] at h
  | (j, x) :: l, hx, t, p, h => by
    simp only [stM, Bool.and_eq_true] at hx
    simp only [lk] at h
    split at h
    · rename_i hb
      have := Nat.eq_of_beq_eq_true hb
      subst this
      cases h
      exact hx.1
    · exact stM_spec hx.2 t p h

def nmsLt (n : Nat) : List (Nat × Nat) → Bool
  | [] => true
  | (t, _) :: l => Nat.ble (Nat.succ t) n && nmsLt n l
theorem nmsLt_spec {n : Nat} : ∀ {l : List (Nat × Nat)}, nmsLt n l = true → ∀ t, n ≤ t → lk l t = none
  | [], _, t, _ => rfl
  | (j, x) :: l, hx, t, h => by
    simp only [nmsLt, Bool.and_eq_true] at hx
    have := ble_true hx.1
    simp only [lk]
    have hb : Nat.beq j t = false := by rw [nat_beq]; simp; omega
    rw [hb]
    exact nmsLt_spec hx.2 t h

/-- Does the template stand for this state? nro: rows from this number on lie nowhere. -/
def Tp.fits (T : Tp) (nro : Nat) (σ : Sb) (tm : Tm) (M : Mem) : Bool :=
  σ.ok && (keysGe nro σ.rv && (distinct σ.nm && (Nat.beq T.sz tm.sz && (stM σ tm T.st && (memM σ M T.mm && nmsLt T.nx σ.nm)))))

theorem Tp.fits_spec {T : Tp} {nro : Nat} {tm tmT : Tm} {M MT : Mem} {a : Act} (h : T.fits nro σ tm M = true) (hT : T.mk' = some (tmT, MT)) (hro : RoBelow env nro) (hA : AsOk (upd env σ) T.as) (ht : TmOk ρ env tm a) (H : Holds ρ env M.get w) :
    TmOk (rhoT σ ρ) (upd env σ) tmT a ∧ Holds (rhoT σ ρ) (upd env σ) MT.get w := by
  simp only [Tp.fits, Bool.and_eq_true] at h
  obtain ⟨h1, h2, h3, h4, h5, h6, h7⟩ := h
  have h4 := Nat.eq_of_beq_eq_true h4
  obtain ⟨t1, t2, t3, t4, t5, t6, t7⟩ := Tp.mk_spec hT
  refine ⟨⟨by rw [t2]; exact hA, by rw [ht.size, t1, h4], fun t => ?_⟩, ⟨fun nT BT hg => ?_, fun nT nT' BT BT' b n n' g1 g2 g3 g4 => ?_, fun i R hR => ?_⟩⟩
  · rw [t4 t]
    cases hs : lk T.st t with
    | some p => exact svM_spec h1 _ _ _ (stM_spec h5 t p hs) (ht.get t)
    | none =>
      simp only
      by_cases hlt : t < T.sz
      · rw [if_pos hlt]; simp only [Rep]
      · rw [if_neg hlt]
        have : a.tmps.getD t undef = undef := by
          have : ¬ t < a.tmps.size := by rw [ht.size]; omega
          simp [this]
        rw [this]
        exact rep_undef
  · rw [t5] at hg
    obtain ⟨nm, B, q1, q2, q3⟩ := memM_spec h6 nT BT hg
    obtain ⟨b, n, q4, q5⟩ := H.blk nm B q2
    exact ⟨b, n, by rw [rhoT_some q1]; exact q4, blkM_spec h1 q3 q5⟩
  · rw [t5] at g1 g2
    obtain ⟨m1, B1, q1, q2, _⟩ := memM_spec h6 nT BT g1
    obtain ⟨m2, B2, q3, q4, _⟩ := memM_spec h6 nT' BT' g2
    rw [rhoT_some q1] at g3
    rw [rhoT_some q3] at g4
    have := H.inj m1 m2 B1 B2 b n n' q2 q4 g3 g4
    subst this
    exact distinct_spec h3 _ _ _ q1 q3
  · obtain ⟨k1, k2, k3⟩ := H.ro i R hR
    have hlt := hro i R hR
    rw [upd_row_ro h2 hlt]
    refine ⟨k1, k2, fun nT BT n hg hρ => ?_⟩
    rw [t5] at hg
    obtain ⟨nm, B, q1, q2, _⟩ := memM_spec h6 nT BT hg
    rw [rhoT_some q1] at hρ
    exact k3 nm B n q2 hρ

theorem Tp.fits_free {T : Tp} {nro : Nat} {tm tmT : Tm} {M MT : Mem} (h : T.fits nro σ tm M = true) (hT : T.mk' = some (tmT, MT)) : ∀ nm, MT.next ≤ nm → rhoT σ ρ nm = none := by
  simp only [Tp.fits, Bool.and_eq_true] at h
  obtain ⟨h1, h2, h3, h4, h5, h6, h7⟩ := h
  obtain ⟨t1, t2, t3, t4, t5, t6, t7⟩ := Tp.mk_spec hT
  intro nm hn
  simp only [rhoT, nmsLt_spec h7 nm (by rw [← t3]; exact hn)]

/-- What is owned is newer than a world. -/
def Since (w0 : World) (ρ : Rho) (g : Get) (w : World) : Prop := Below w0.heap.size w0 w ∧ ∀ nm B b n, g nm = some B → ρ nm = some (b, n) → w0.heap.size ≤ b

theorem Since.post {w0 w' : World} {L : Nat} {ρ' : Rho} {g g' : Get} {n n' : Nat} (h : Since w0 ρ g w) (hp : Post env L ρ g n w ρ' g' n' w') : Since w0 ρ' g' w' := by
  obtain ⟨⟨h1, h2, h3, h4, h5⟩, h6⟩ := h
  refine ⟨⟨hp.os.trans h1, hp.tape.trans h2, hp.output.trans h3, Nat.le_trans h4 hp.size, fun k hk => ?_⟩, fun nm B b m q1 q2 => ?_⟩
  · rw [hp.frame k (Nat.lt_of_lt_of_le hk h4) fun nm B m q1 q2 => ?_]
    · exact h5 k hk
    · have := h6 nm B k m q1 q2; omega
  · rcases hp.own nm B b m q1 q2 with q3 | ⟨m0, B0, n0, q3, q4⟩
    · omega
    · exact h6 m0 B0 b n0 q3 q4

/-! ### Known slices as rows, where the template has rows -/

def viewSt (mm : List (Nat × Blk)) : List (Nat × SV) → Tm → Mem → Tm × Mem
  | [], tm, M => (tm, M)
  | (t, p) :: l, tm, M => match p with
    | .rsl (.own nT) _ _ _ => match lk mm nT with
      | some BT => match BT.row with
        | some (_, _, ks) => match Nat.ble 1 ks.length, viewRow M BT.elem ks (tm.get t) with
          | true, some (M', nm, len) => match Tr.put fuelT tm.tr t (some (.rsl (.own nm) (.lit 0) len ks.length)) with
            | some tr => viewSt mm l ⟨tm.sz, tr, tm.as⟩ M'
            | none => viewSt mm l tm M
          | _, _ => viewSt mm l tm M
        | none => viewSt mm l tm M
      | none => viewSt mm l tm M
    | _ => viewSt mm l tm M

theorem viewSt_spec {mm : List (Nat × Blk)} {a : Act} {w0 : World} : ∀ (l : List (Nat × SV)) (tm tm' : Tm) (M M' : Mem), viewSt mm l tm M = (tm', M') → TmOk ρ env tm a → Holds ρ env M.get w → Since w0 ρ M.get w →
    TmOk ρ env tm' a ∧ Holds ρ env M'.get w ∧ Since w0 ρ M'.get w
  | [], tm, tm', M, M', h, ht, H, hs => by
    simp only [viewSt, Prod.mk.injEq] at h
    obtain ⟨rfl, rfl⟩ := h
    exact ⟨ht, H, hs⟩
  | (t, p) :: l, tm, tm', M, M', h, ht, H, hs => by
    have ih := viewSt_spec (mm := mm) (a := a) (w0 := w0) l
    simp only [viewSt] at h
    split at h
    · split at h
      · split at h
        · split at h
          · rename_i hk hv
            split at h
            · rename_i tr htr
              obtain ⟨v1, v2, v3, v4, v5⟩ := viewRow_spec H (ble_true hk) hv (ht.get t)
              refine ih _ _ _ _ h ⟨ht.as, ht.size, fun s => ?_⟩ v1 ⟨hs.1, fun nm B b n q1 q2 => ?_⟩
              · simp only [Tm.get]
                rw [Tr.get_put _ _ _ _ _ htr s]
                by_cases e : s = t
                · subst e; rw [if_pos rfl]; exact v4
                · rw [if_neg e]; exact ht.get s
              · obtain ⟨C, hC⟩ := v3 nm B q1
                exact hs.2 nm C b n hC q2
            · exact ih _ _ _ _ h ht H hs
          · exact ih _ _ _ _ h ht H hs
        · exact ih _ _ _ _ h ht H hs
      · exact ih _ _ _ _ h ht H hs
    · exact ih _ _ _ _ h ht H hs

theorem Since.fits {T : Tp} {nro : Nat} {tm tmT : Tm} {M MT : Mem} {w0 : World} (h : T.fits nro σ tm M = true) (hT : T.mk' = some (tmT, MT)) (hs : Since w0 ρ M.get w) : Since w0 (rhoT σ ρ) MT.get w := by
  simp only [Tp.fits, Bool.and_eq_true] at h
  obtain ⟨h1, h2, h3, h4, h5, h6, h7⟩ := h
  obtain ⟨t1, t2, t3, t4, t5, t6, t7⟩ := Tp.mk_spec hT
  refine ⟨hs.1, fun nT BT b n hg hρ => ?_⟩
  rw [t5] at hg
  obtain ⟨nm, B, q1, q2, _⟩ := memM_spec h6 nT BT hg
  rw [rhoT_some q1] at hρ
  exact hs.2 nm B b n q2 hρ

end
end Go.Sym
