/- Operations that turn rows, or make them. -/
import Derived.Test.YtkfejcffacbngaaSyT
namespace Go.Sym
open Go Go.RowKit
set_option linter.unusedVariables false

section
variable {ρ : Rho} {env : Env} {w : World} {P : Program} {L : Nat} {ev : Ev} {av : Operand → Value}

/-- Cells stored in a block, from a place on. -/
theorem store_row {b : Nat} {t : TypeId} {lo hi n o : Nat} (hfr : lo = hi ∨ n ≤ lo) : ∀ (l0 : List Value) (i0 : Nat) (w0 : World) (c0 : Array Value), w0.heap[b]? = some (.cells c0 t (lo, hi)) → c0.size = n → o + i0 + l0.length ≤ n → (∀ z ∈ l0, z.oneCell' = true) →
    ∃ w', (storeCells ⟨b, o, none⟩ l0 i0).run P w0 = .ok () w' ∧ SameBut w0 w' b ∧ ∃ c', w'.heap[b]? = some (.cells c' t (lo, hi)) ∧ c'.size = n ∧
      ∀ j, c'[j]? = if o + i0 ≤ j ∧ j < o + i0 + l0.length then l0[j - (o + i0)]? else c0[j]? := by
  intro l0
  induction l0 with
  | nil =>
    intro i0 w0 c0 q1 q2 q3 q4
    refine ⟨w0, by simp [storeCells], ⟨rfl, fun _ _ => rfl, rfl, rfl, rfl⟩, c0, q1, q2, fun j => ?_⟩
    have : ¬ (o + i0 ≤ j ∧ j < o + i0 + ([] : List Value).length) := by simp
    rw [if_neg this]
  | cons z l0 ih =>
    intro i0 w0 c0 q1 q2 q3 q4
    simp only [List.length_cons] at q3
    have hcell : w0.cell? ⟨b, o + i0, none⟩ = some (c0[o + i0]'(by omega)) := by
      simp [World.cell?, q1]
    have hfz : w0.frozen? ⟨b, o + i0, none⟩ = false := by
      have : ¬ (lo ≤ o + i0 ∧ o + i0 < hi) := by omega
      simp only [World.frozen?, q1]
      simpa using this
    have hz1 := q4 z (by simp)
    obtain ⟨w', s1, s2, c', s3, s4, s5⟩ := ih (i0 + 1) (w0.setCell ⟨b, o + i0, none⟩ z) (c0.setIfInBounds (o + i0) z) (heap_setCell_at _ _ _ _ _ _ _ q1) (by simpa using q2) (by omega) (fun z' hz' => q4 z' (by simp [hz']))
    have hsb := sameBut_setCell w0 ⟨b, o + i0, none⟩ z
    refine ⟨w', ?_, ⟨s2.size.trans hsb.size, fun m hm => (s2.other m hm).trans (hsb.other m hm), s2.os.trans hsb.os, s2.tape.trans hsb.tape, s2.output.trans hsb.output⟩, c', s3, s4, fun j => ?_⟩
    · simp only [storeCells, Sem.run_bind, addr_add]
      rw [run_store P w0 _ z .plain hz1, hcell]
      simp only [hfz, Bool.false_eq_true, if_false, Result.andThen_ok]
      exact s1
    · rw [s5 j]
      by_cases hj : o + (i0 + 1) ≤ j ∧ j < o + (i0 + 1) + l0.length
      · have : o + i0 ≤ j ∧ j < o + i0 + (z :: l0).length := by simp only [List.length_cons]; omega
        rw [if_pos hj, if_pos this]
        have e : j - (o + i0) = (j - (o + (i0 + 1))) + 1 := by omega
        rw [e, List.getElem?_cons_succ]
      · rw [if_neg hj]
        by_cases h0 : j = o + i0
        · subst h0
          have : o + i0 ≤ o + i0 ∧ o + i0 < o + i0 + (z :: l0).length := by simp
          rw [if_pos this]
          have hlt : o + i0 < c0.size := by omega
          simp [hlt]
        · have : ¬ (o + i0 ≤ j ∧ j < o + i0 + (z :: l0).length) := by simp only [List.length_cons]; omega
          rw [if_neg this, Array.getElem?_setIfInBounds_ne (Ne.symm h0)]

/-- a row's cells -/
def vals (ks : List IntKind) (l : List Int) : List Value := l.mapIdx fun j x => .int (kindAt ks j) x
theorem vals_get (ks : List IntKind) (l : List Int) (j : Nat) : (vals ks l)[j]? = l[j]?.map (Value.int (kindAt ks j)) := by simp [vals, List.getElem?_mapIdx]
theorem vals_length (ks : List IntKind) (l : List Int) : (vals ks l).length = l.length := by simp [vals]
theorem vals_one (ks : List IntKind) (l : List Int) : ∀ z ∈ vals ks l, z.oneCell' = true := by
  intro z hz
  obtain ⟨j, hj⟩ := List.getElem?_of_mem hz
  rw [vals_get] at hj
  cases h : l[j]? with
  | none => rw [h] at hj; cases hj
  | some x => rw [h] at hj; cases hj; rfl
theorem kindAt_add (ks : List IntKind) (m j : Nat) : kindAt ks (m * ks.length + j) = kindAt ks j := by
  unfold kindAt; rw [Nat.add_comm, Nat.add_mul_mod_self_right]
theorem vals_append (ks : List IntKind) (l m : List Int) (n : Nat) (h : l.length = n * ks.length) : vals ks (l ++ m) = vals ks l ++ vals ks m := by
  refine List.ext_getElem? fun j => ?_
  rw [vals_get, List.getElem?_append, List.getElem?_append, vals_length, vals_get, vals_get]
  split
  · rfl
  · rename_i hj
    have e : j = n * ks.length + (j - l.length) := by omega
    rw [e, kindAt_add, ← h]; simp
theorem kindAt_drop (ks : List IntKind) (l : List Int) (n : Nat) : vals ks (l.drop (n * ks.length)) = (vals ks l).drop (n * ks.length) := by
  refine List.ext_getElem? fun j => ?_
  rw [vals_get, List.getElem?_drop, List.getElem?_drop, vals_get, kindAt_add]
theorem vals_take (ks : List IntKind) (l : List Int) (n : Nat) : vals ks (l.take n) = (vals ks l).take n := by
  refine List.ext_getElem? fun j => ?_
  rw [vals_get, List.getElem?_take, List.getElem?_take, vals_get]
  split <;> rfl

theorem rowAt_vals {b base : Nat} {ks : List IntKind} {l : List Int} (h : RowAt w b base ks l) (j : Nat) (hj : j < l.length) : w.cell? ⟨b, base + j, none⟩ = some ((vals ks l)[j]'(by rw [vals_length]; exact hj)) := by
  have := h j _ (List.getElem?_eq_getElem hj)
  rw [this]
  have h2 := vals_get ks l j
  rw [List.getElem?_eq_getElem hj, List.getElem?_eq_getElem (by rw [vals_length]; exact hj)] at h2
  simpa using h2.symm

/-- part of a row, loaded -/
theorem load_part {b base : Nat} {ks : List IntKind} {l : List Int} (h : RowAt w b base ks l) (o n : Nat) (ho : (o + n) * ks.length ≤ l.length) {w' : World} (hh : w'.heap = w.heap) :
    (loadCells ⟨b, base + o * ks.length, none⟩ (n * ks.length)).run P w' = .ok (vals ks ((l.drop (o * ks.length)).take (n * ks.length))).toArray w' := by
  let f : Nat → Value := fun j => ((vals ks l)[o * ks.length + j]?).getD undef
  rw [Nat.add_mul] at ho
  have h1 := run_loadCells (P := P) w' ⟨b, base + o * ks.length, none⟩ (n * ks.length) f (fun j hj => by
    have hlt : o * ks.length + j < l.length := by omega
    rw [addr_add, Nat.add_assoc]
    have hc : w'.cell? ⟨b, base + (o * ks.length + j), none⟩ = w.cell? ⟨b, base + (o * ks.length + j), none⟩ := by simp [World.cell?, hh]
    rw [hc, rowAt_vals h _ hlt]
    simp only [f]
    rw [List.getElem?_eq_getElem (by rw [vals_length]; exact hlt)]; rfl)
  rw [h1]
  have : (List.range (n * ks.length)).map f = vals ks ((l.drop (o * ks.length)).take (n * ks.length)) := by
    rw [vals_take, kindAt_drop]
    refine List.ext_getElem? fun j => ?_
    rw [List.getElem?_take, List.getElem?_drop, List.getElem?_map]
    by_cases hj : j < n * ks.length
    · rw [List.getElem?_range hj, if_pos hj]
      have hlt : o * ks.length + j < (vals ks l).length := by rw [vals_length]; omega
      simp only [Option.map_some, f, List.getElem?_eq_getElem hlt, Option.getD_some]
    · have : (List.range (n * ks.length))[j]? = none := by simp; omega
      rw [this, if_neg hj]; rfl
  rw [this]

/-! ### What is appended -/

def ksEq : List IntKind → List IntKind → Bool
  | [], [] => true
  | a :: l, b :: m => kEq a b && ksEq l m
  | _, _ => false
theorem ksEq_spec : ∀ {l m : List IntKind}, ksEq l m = true → l = m
  | [], m, h => by cases m <;> simp only [ksEq] at h <;> first | rfl | cases h
  | a :: l, m, h => by
    cases m <;> simp only [ksEq] at h <;> first | (cases h; done) | skip
    simp only [Bool.and_eq_true] at h
    rw [kEq_spec h.1, ksEq_spec h.2]

/-- known cells as a row -/
def rowLit (ks : List IntKind) : Nat → List SV → Option IE
  | _, [] => some .rnil
  | j, s :: l => match toIE s with
    | some (k, e) => match kEq k (nthK ks (Nat.mod j ks.length)), rowLit ks (Nat.succ j) l with
      | true, some r => some (.rcons e r)
      | _, _ => none
    | none => none

theorem nthK_kindAt (ks : List IntKind) (j : Nat) : nthK ks (Nat.mod j ks.length) = kindAt ks j := by
  unfold nthK kindAt
  rw [nth_eq]
  have : Nat.mod j ks.length = j % ks.length := rfl
  rw [this]
  cases ks[j % ks.length]? <;> rfl

theorem rowLit_spec {ks : List IntKind} : ∀ {l : List SV} {vs : List Value} {j : Nat} {r : IE}, rowLit ks j l = some r → RepL ρ env l vs →
    (r.reval env).length = l.length ∧ ∀ i, vs[i]? = (r.reval env)[i]?.map (Value.int (kindAt ks (j + i)))
  | [], vs, j, r, h, hr => by
    simp only [rowLit, Option.some.injEq] at h; subst h
    simp only [RepL] at hr; subst hr
    simp [IE.reval]
  | s :: l, vs, j, r, h, hr => by
    simp only [rowLit] at h
    split at h <;> try (cases h; done)
    rename_i k e he
    split at h <;> try (cases h; done)
    rename_i r' hk hl
    cases h
    simp only [RepL] at hr
    obtain ⟨v, vs', rfl, h2, h3⟩ := hr
    obtain ⟨h4, h5⟩ := rowLit_spec hl h3
    have hk := kEq_spec hk
    rw [nthK_kindAt] at hk
    have hv := toIE_spec he h2
    refine ⟨by simp only [IE.reval, List.length_cons, h4], fun i => ?_⟩
    cases i with
    | zero => simp [IE.reval, hv, hk]
    | succ i =>
      simp only [IE.reval, List.getElem?_cons_succ]
      rw [h5 i]
      have : j.succ + i = j + (i + 1) := by omega
      rw [this]

/-- what is appended: what must hold, its row, how many elements -/
def srcRow (M : Mem) (ks : List IntKind) (x : SV) : Option (List BE × IE × IE) :=
  match x with
  | .nilslice => some ([], .rnil, .lit 0)
  | .zslice => some ([], .rnil, .lit 0)
  | .eslice => some ([], .rnil, .lit 0)
  | .e0 => some ([], .rnil, .lit 0)
  | .rsl p off len esz => match rowP M p with
    | some (r, cnt, ks') => match ksEq ks' ks, Nat.beq esz ks.length with
      | true, true => some ([nonneg len, atmB (plusE off len) cnt], subE r off (plusE off len) cnt esz, len)
      | _, _ => none
    | none => none
  | .rstr r => match isU8 ks with
    | true => some ([], r, .rlen r 1)
    | false => none
  | .str s => match isU8 ks with
    | true => some ([], .rcon (byteInts s.data.toList), .lit (Int.ofNat s.data.toList.length))
    | false => none
  | .slice nm off len _ => match M.get nm with
    | some B => match B.cellsFrom off (len * ks.length) with
      | some l => match rowLit ks 0 l with
        | some r => some ([], r, .lit (Int.ofNat len))
        | none => none
      | none => none
    | none => none
  | .oslice nm off len _ => match M.get nm with
    | some B => match B.cellsFrom off (len * ks.length) with
      | some l => match rowLit ks 0 l with
        | some r => some ([], r, .lit (Int.ofNat len))
        | none => none
      | none => none
    | none => none
  | _ => none

theorem isU8_spec {ks : List IntKind} (h : isU8 ks = true) : ks = [.u8] := by
  unfold isU8 at h
  split at h
  · rfl
  · cases h

theorem vals_str (s : ByteArray) (n : Nat) (hn : s.size ≤ n) : ((s.extract 0 n).data.map fun b => Value.int .u8 (b.toNat : Int)) = (vals [.u8] (intsOf s)).toArray := by
  have e : (s.extract 0 n).data = s.data := by
    rw [ByteArray.data_extract]
    have h2 : s.size = s.data.size := rfl
    apply Array.ext'
    rw [Array.toList_extract, List.extract_eq_take_drop]
    simp only [List.drop_zero, Nat.sub_zero]
    exact List.take_of_length_le (by simp; omega)
  rw [e]
  apply Array.ext'
  refine List.ext_getElem? fun j => ?_
  have : kindAt [IntKind.u8] j = .u8 := by simp [kindAt, Nat.mod_one]
  simp only [Array.toList_map, vals_get, this, intsOf, List.getElem?_map, Option.map_map]
  rfl

theorem srcRow_spec {M : Mem} {ks : List IntKind} {x : SV} {bs : List BE} {r n : IE} {u : Value} (H : Holds ρ env M.get w) (hks : 0 < ks.length) (h : srcRow M ks x = some (bs, r, n)) (hb : ∀ b ∈ bs, b.eval env = true) (hx : Rep ρ env x u) :
    0 ≤ n.eval env ∧ (r.reval env).length = (n.eval env).toNat * ks.length ∧ (∀ w' : World, (Builtin.lenOf u).run P w' = .ok (n.eval env).toNat w') ∧
      ∀ w', w'.heap = w.heap → (Builtin.firstCells ks.length (n.eval env).toNat u).run P w' = .ok (vals ks (r.reval env)).toArray w' := by
  have e0 : (IE.lit 0).eval env = 0 := by simp only [IE.eval]
  have known : ∀ b off len B l r', M.get b = some B → B.cellsFrom off (len * ks.length) = some l → rowLit ks 0 l = some r' → ∀ bb nn, ρ b = some (bb, nn) →
      (r'.reval env).length = len * ks.length ∧ ∀ w', w'.heap = w.heap → (loadCells ⟨bb, off, none⟩ (len * ks.length)).run P w' = .ok (vals ks (r'.reval env)).toArray w' := by
    intro b off len B l r' hB hl hr bb nn hbb
    have hll := (Blk.cellsFrom_spec _ _ _ hl).1
    have hC := H.at hB hbb
    have key : ∀ w', w'.heap = w.heap → Cellar ρ env B bb nn w' := fun w' hh => hC.of_block (fun _ _ h => h) (by rw [hh])
    refine ⟨?_, fun w' hh => ?_⟩
    · obtain ⟨vs, h1, h2⟩ := run_loadCells_own (P := P) hC hl
      rw [(rowLit_spec hr h2).1, hll]
    · obtain ⟨vs, h1, h2⟩ := run_loadCells_own (P := P) (key w' hh) hl
      rw [h1]
      have h3 := (rowLit_spec hr h2).2
      have : vs = (vals ks (r'.reval env)).toArray := by
        apply Array.ext'
        refine List.ext_getElem? fun j => ?_
        rw [h3 j, vals_get, Nat.zero_add]
      rw [this]
  have zer : ∀ a c, u = .slice a 0 c → ∀ w' : World, (Builtin.firstCells ks.length 0 u).run P w' = .ok #[] w' := by
    intro a c hu w'
    subst hu
    cases a with
    | none => rfl
    | some a => simp [Builtin.firstCells, loadCells, loadCellsFrom]
  unfold srcRow at h
  split at h
  · cases h; simp only [Rep] at hx; subst hx
    exact ⟨by omega, by simp [IE.reval, e0], fun w' => by simp [Builtin.lenOf, e0], fun w' _ => by rw [e0]; simpa [IE.reval, vals] using zer none 0 rfl w'⟩
  · cases h; simp only [Rep] at hx; obtain ⟨a, rfl⟩ := hx
    exact ⟨by omega, by simp [IE.reval, e0], fun w' => by simp [Builtin.lenOf, e0], fun w' _ => by rw [e0]; simpa [IE.reval, vals] using zer a 0 rfl w'⟩
  · cases h; simp only [Rep] at hx; obtain ⟨a, c, rfl⟩ := hx
    exact ⟨by omega, by simp [IE.reval, e0], fun w' => by simp [Builtin.lenOf, e0], fun w' _ => by rw [e0]; simpa [IE.reval, vals] using zer a c rfl w'⟩
  · cases h; simp only [Rep] at hx; obtain ⟨a, c, rfl⟩ := hx
    exact ⟨by omega, by simp [IE.reval, e0], fun w' => by simp [Builtin.lenOf, e0], fun w' _ => by rw [e0]; simpa [IE.reval, vals] using zer a c rfl w'⟩
  · rename_i p off len esz
    split at h <;> try (cases h; done)
    rename_i r0 cnt ks' hr
    split at h <;> try (cases h; done)
    rename_i h1 h2
    have := ksEq_spec h1; subst this
    have := Nat.eq_of_beq_eq_true h2; subst this
    cases h
    have hlen := nonneg_spec (hb _ (List.mem_cons_self ..))
    have hin := atmB_spec (hb (atmB (plusE off n) cnt) (by simp))
    rw [plusE_eval] at hin
    simp only [Rep] at hx
    obtain ⟨l, c, g1, g2, g3, g4⟩ := hx
    have hl : (n.eval env).toNat = l := by omega
    rcases g4 with ⟨b, base, k1, rfl, k3⟩ | ⟨rfl, k1, a, rfl⟩
    · obtain ⟨⟨q1, q2, q3⟩, hat⟩ := rowP_spec H hr k1
      have hrow : (subE r0 off (plusE off n) cnt ks'.length).reval env = ((r0.reval env).drop ((off.eval env).toNat * ks'.length)).take (l * ks'.length) := by
        rw [subE_eval q3, plusE_eval, subL]
        have : (off.eval env + n.eval env).toNat = (off.eval env).toNat + l := by omega
        rw [this, List.drop_take, Nat.add_mul]; congr 1; omega
      have hfit : ((off.eval env).toNat + l) * ks'.length ≤ (r0.reval env).length := by
        rw [q3]; exact Nat.mul_le_mul_right _ (by omega)
      refine ⟨hlen, ?_, fun w' => by simp [Builtin.lenOf, hl], fun w' hh => ?_⟩
      · rw [hrow, hl, List.length_take, List.length_drop]; rw [Nat.add_mul] at hfit; omega
      · rw [hrow, hl]
        simp only [Builtin.firstCells]
        exact load_part hat _ _ hfit hh
    · have hrl : (r0.reval env).length = (cnt.eval env).toNat * ks'.length := by
        cases p with
        | own nm =>
          simp only [rowP] at hr
          split at hr
          · rename_i B hB
            obtain ⟨b', n', h2', hC⟩ := H.blk nm B hB
            exact (hC.rows r0 cnt _ hr).1.2.2.2
          · cases hr
        | ro i ks'' =>
          simp only [rowP, Option.some.injEq, Prod.mk.injEq] at hr
          obtain ⟨rfl, rfl, rfl⟩ := hr
          simp only [IE.eval, IE.reval, Int.toNat_natCast]
          exact (Nat.div_mul_cancel (Nat.dvd_of_mod_eq_zero k1)).symm
      have hn0 : n.eval env = 0 := by omega
      have hrow : (subE r0 off (plusE off n) cnt ks'.length).reval env = [] := by
        rw [subE_eval hrl, plusE_eval, hn0]; simp [subL]
      rw [hrow, hn0]
      exact ⟨by omega, by simp, fun w' => by simp [Builtin.lenOf], fun w' _ => by simpa [vals] using zer a c rfl w'⟩
  · rename_i r0
    split at h <;> try (cases h; done)
    rename_i hu8
    have := isU8_spec hu8; subst this
    cases h
    simp only [Rep] at hx
    obtain ⟨s, rfl, hs⟩ := hx
    have hn : (IE.rlen r 1).eval env = (s.size : Int) := by simp only [IE.eval, Nat.div_one, ← hs, intsOf_length]
    rw [hn, ← hs]
    refine ⟨by omega, by simp [intsOf_length], fun w' => by simp [Builtin.lenOf], fun w' _ => ?_⟩
    simp only [Builtin.firstCells, Sem.run_pure, Int.toNat_natCast, vals_str s s.size (Nat.le_refl _)]
  · rename_i s
    split at h <;> try (cases h; done)
    rename_i hu8
    have := isU8_spec hu8; subst this
    cases h
    simp only [Rep] at hx
    subst hx
    have hs : (IE.rcon (byteInts s.data.toList)).reval env = intsOf s := by simp only [IE.reval, byteInts_eq, intsOf]
    have hn : (IE.lit (Int.ofNat s.data.toList.length)).eval env = (s.size : Int) := by simp only [IE.eval]; rfl
    rw [hn, hs]
    refine ⟨by omega, by simp [intsOf_length], fun w' => by simp [Builtin.lenOf], fun w' _ => ?_⟩
    simp only [Builtin.firstCells, Sem.run_pure, Int.toNat_natCast, vals_str s s.size (Nat.le_refl _)]
  · rename_i nm off len cap
    split at h <;> try (cases h; done)
    rename_i B hB
    split at h <;> try (cases h; done)
    rename_i l hl
    split at h <;> try (cases h; done)
    rename_i r' hr
    cases h
    simp only [Rep] at hx
    obtain ⟨b, k, h1, rfl⟩ := hx
    obtain ⟨k1, k2⟩ := known nm off len B l r hB hl hr b k h1
    have hn : (IE.lit (Int.ofNat len)).eval env = (len : Int) := by simp only [IE.eval]; rfl
    rw [hn]
    exact ⟨by omega, by simpa using k1, fun w' => by simp [Builtin.lenOf], fun w' hh => by simpa [Builtin.firstCells] using k2 w' hh⟩
  · rename_i nm off len esz
    split at h <;> try (cases h; done)
    rename_i B hB
    split at h <;> try (cases h; done)
    rename_i l hl
    split at h <;> try (cases h; done)
    rename_i r' hr
    cases h
    simp only [Rep] at hx
    obtain ⟨b, k, c, h1, rfl, _⟩ := hx
    obtain ⟨k1, k2⟩ := known nm off len B l r hB hl hr b k h1
    have hn : (IE.lit (Int.ofNat len)).eval env = (len : Int) := by simp only [IE.eval]; rfl
    rw [hn]
    exact ⟨by omega, by simpa using k1, fun w' => by simp [Builtin.lenOf], fun w' hh => by simpa [Builtin.firstCells] using k2 w' hh⟩
  · cases h

/-! ### The operations -/

def roomB (P : Program) (e : TypeId) (need : IE) : Option BE :=
  match P.info? e with
  | some i => match i.bytes with
    | 0 => none
    | b + 1 => some (atmB need (.lit (Int.ofNat (Nat.div 140737488355328 (b + 1)))))
  | none => none

theorem roomB_spec {e : TypeId} {need : IE} {b : BE} (h : roomB P e need = some b) (hb : b.eval env = true) : ∃ i, P.info? e = some i ∧ need.eval env ≤ 140737488355328 ∧ ∀ n : Nat, (n : Int) ≤ need.eval env → n * i.bytes ≤ 140737488355328 := by
  unfold roomB at h
  split at h <;> try (cases h; done)
  rename_i i hi
  split at h <;> try (cases h; done)
  rename_i b' hbytes
  cases h
  have h1 := atmB_spec hb
  have e1 : (IE.lit (Int.ofNat (Nat.div 140737488355328 (b' + 1)))).eval env = ((140737488355328 / (b' + 1) : Nat) : Int) := by simp only [IE.eval]; rfl
  rw [e1] at h1
  refine ⟨i, hi, ?_, fun n hn => ?_⟩
  · have : 140737488355328 / (b' + 1) ≤ 140737488355328 := Nat.div_le_self _ _
    omega
  · rw [hbytes]
    have h2 : n ≤ 140737488355328 / (b' + 1) := by omega
    calc n * (b' + 1) ≤ (140737488355328 / (b' + 1)) * (b' + 1) := Nat.mul_le_mul_right _ h2
      _ ≤ 140737488355328 := Nat.div_mul_le_self _ _

/-- the kinds of an element's cells, by its zero value -/
def ksOf : List SV → Option (List IntKind)
  | [] => some []
  | .int k (.ofNat 0) :: l => match ksOf l with
    | some ks => some (k :: ks)
    | none => none
  | _ => none

def elemKs (P : Program) (e : TypeId) : Option (List IntKind) :=
  match zeroS P e, tySz P e with
  | some z, some n => match ksOf z.cells with
    | some (k :: ks) => match Nat.beq (k :: ks).length n with
      | true => some (k :: ks)
      | false => none
    | _ => none
  | _, _ => none

theorem ksOf_spec : ∀ {l : List SV} {ks : List IntKind} {vs : List Value}, ksOf l = some ks → RepL ρ env l vs → vs = ks.map fun k => Value.int k 0
  | [], ks, vs, h, hr => by
    simp only [ksOf, Option.some.injEq] at h; subst h
    simp only [RepL] at hr; subst hr; rfl
  | s :: l, ks, vs, h, hr => by
    unfold ksOf at h
    split at h
    · rename_i h0; cases h0
    · rename_i k l' he
      cases he
      split at h <;> try (cases h; done)
      rename_i ks' hk
      cases h
      simp only [RepL, Rep] at hr
      obtain ⟨v, vs', rfl, rfl, h3⟩ := hr
      rw [ksOf_spec hk h3]; rfl
    · cases h

theorem elemKs_spec {e : TypeId} {ks : List IntKind} (h : elemKs P e = some ks) : 0 < ks.length ∧ tySz P e = some ks.length ∧ ∃ i zv, P.info? e = some i ∧ i.zero = some zv ∧ zv.cells = (ks.map fun k => Value.int k 0).toArray ∧ i.size = ks.length := by
  unfold elemKs at h
  split at h <;> try (cases h; done)
  rename_i z n hz hn
  split at h <;> try (cases h; done)
  rename_i k ks' hk
  split at h <;> try (cases h; done)
  rename_i hl
  have hl := Nat.eq_of_beq_eq_true hl
  cases h
  obtain ⟨i, zv, hi, hzv, hrz, _, htz⟩ := zeroS_spec (ρ := fun _ => none) (env := env0) hz
  have hc := ksOf_spec hk (hrz.cells htz)
  refine ⟨by simp, by rw [hl]; exact hn, i, zv, hi, hzv, Array.ext' (by simpa using hc), ?_⟩
  unfold tySz at hn
  rw [hi] at hn
  cases hn
  exact hl.symm

/-- a new block with this row -/
def newRowB (M : Mem) (e : TypeId) (r cnt : IE) (ks : List IntKind) : Option (Nat × Mem) :=
  M.new { elem := e, size := 0, zs := [], tr := .nil, opn := true, row := some (r, cnt, ks) }

/-- numbers into a row, cell by cell -/
def setsE (r idx : IE) (esz : Nat) : Nat → List SV → Option IE
  | _, [] => some r
  | fld, s :: l => match toIE s with
    | some (_, e) => setsE (.set r idx esz fld e) idx esz (Nat.succ fld) l
    | none => none

def kindsAre (ks : List IntKind) : Nat → List SV → Bool
  | _, [] => true
  | fld, s :: l => match toIE s with
    | some (k, _) => kEq k (nthK ks fld) && kindsAre ks (Nat.succ fld) l
    | none => false

/-- a slice of known cells as a row: its memory, its name, its length -/
def viewRow (M : Mem) (e : TypeId) (ks : List IntKind) (x : SV) : Option (Mem × Nat × IE) :=
  match x with
  | .rsl (.own nm) (.lit (.ofNat 0)) len esz => match Nat.beq esz ks.length with
    | true => some (M, nm, len)
    | false => none
  | .oslice nm (.zero) len esz => match M.get nm, Nat.beq esz ks.length with
    | some B, true => match Nat.beq B.elem e, B.cellsFrom 0 (len * ks.length), B.row with
      | true, some l, none => match rowLit ks 0 l with
        | some r => match M.set nm (some { elem := e, size := 0, zs := [], tr := .nil, opn := true, row := some (r, .lit (Int.ofNat len), ks) }) with
          | some M' => some (M', nm, .lit (Int.ofNat len))
          | none => none
        | none => none
      | _, _, _ => none
    | _, _ => none
  | .slice nm (.zero) len cap => match M.get nm with
    | some B => match Nat.beq B.elem e, Nat.beq B.size (cap * ks.length), Nat.ble len cap, B.opn, B.cellsFrom 0 (len * ks.length), B.row with
      | true, true, true, false, some l, none => match rowLit ks 0 l with
        | some r => match M.set nm (some { elem := e, size := 0, zs := [], tr := .nil, opn := true, row := some (r, .lit (Int.ofNat len), ks) }) with
          | some M' => some (M', nm, .lit (Int.ofNat len))
          | none => none
        | none => none
      | _, _, _, _, _, _ => none
    | none => none
  | _ => none

/-- An operation that turns rows: what must hold, its value, memory behind it. -/
def xe (P : Program) (as : As) (M : Mem) (ev : Ev) (o : Oper) : Option (List BE × SV × Mem) :=
  match o.op with
  | .store t a x => match ev a, ev x with
    | some (.rptr (.own nm) idx esz fld), some s => match M.get nm, tySz P t with
      | some B, some n => match B.row with
        | some (r, cnt, ks) => match Nat.beq ks.length esz, s.isTuple, Nat.beq s.cells.length n, Nat.ble (fld + n) esz, kindsAre ks fld s.cells with
          | true, false, true, true, true => match setsE r idx esz fld s.cells with
            | some r' => match M.set nm (some { B with row := some (r', cnt, ks) }) with
              | some M' => some ([lessB idx cnt], .tuple [], M')
              | none => none
            | none => none
          | _, _, _, _, _ => none
        | none => none
      | _, _ => none
    | _, _ => none
  | .makeSlice t l c => match P.underlying t, ev l, ev c with
    | some (.slice e), some sl, some sc => match elemKs P e, toIE sl, toIE sc with
      | some ks, some (_, el), some (_, ec) => match roomB P e ec with
        | some rb => match newRowB M e (.rep ec (.rcon (ks.map fun _ => 0))) ec ks with
          | some (nm, M') => some ([nonneg el, atmB el ec, rb], .rsl (.own nm) (.lit 0) el ks.length, M')
          | none => none
        | none => none
      | _, _, _ => none
    | _, _, _ => none
  | .convert src dst x => match ev x, P.underlying dst, P.underlying src with
    | some (.rstr r), some (.slice e), some .string => match P.underlying e with
      | some (.int .u8) => match newRowB M e r (.rlen r 1) [.u8] with
        | some (nm, M') => some ([], .rsl (.own nm) (.lit 0) (.rlen r 1) 1, M')
        | none => none
      | _ => none
    | _, _, _ => none
  | .call c => match c.callee with
    | .builtin .append => match evL ev c.args.toList with
      | some [x, y] => match c.argTypes[0]?, c.argTypes[1]? with
        | some t, some yt => match P.underlying t, P.underlying yt with
          | some (.slice e), some d => match elemKs P e with
            | none => none
            | some ks => match (match isIntD d with
                | false => srcRow M ks y
                | true => match toIE y with
                  | some (_, n) => match roomB P e n with
                    | some rb => some ([nonneg n, rb], .rep n (.rcon (ks.map fun _ => 0)), n)
                    | none => none
                  | none => none) with
              | none => none
              | some (bs, ry, n) => match x with
                | .nilslice => match ckB as (lessB (.lit 0) n) with
                  | some false => some (bs, .nilslice, M)
                  | some true => match roomB P e n, newRowB M e ry n ks with
                    | some rb, some (nm, M') => some (rb :: bs, .rsl (.own nm) (.lit 0) n ks.length, M')
                    | _, _ => none
                  | none => some ([lessB (.lit 0) n, lessB (.lit 0) (.lit 0)], .nilslice, M)
                | .zslice => match ckB as (lessB (.lit 0) n) with
                  | some false => some (bs, .zslice, M)
                  | some true => match roomB P e n, newRowB M e ry n ks with
                    | some rb, some (nm, M') => some (rb :: bs, .rsl (.own nm) (.lit 0) n ks.length, M')
                    | _, _ => none
                  | none => some ([lessB (.lit 0) n, lessB (.lit 0) (.lit 0)], .nilslice, M)
                | x => match viewRow M e ks x with
                  | none => none
                  | some (M0, nm, len) => match M0.get nm with
                    | none => none
                    | some B => match B.row, Nat.beq B.elem e, M0.set nm none with
                      | some (r, cnt, ks'), true, some M1 => match ksEq ks' ks, roomB P e (plusE len n), newRowB M1 e (.cat (subE r (.lit 0) len cnt ks.length) ry) (plusE len n) ks with
                        | true, some rb, some (nm', M') => some (rb :: nonneg len :: atmB len cnt :: bs, .rsl (.own nm') (.lit 0) (plusE len n) ks.length, M')
                        | _, _, _ => none
                      | _, _, _ => none
          | _, _ => none
        | _, _ => none
      | _ => none
    | _ => none
  | _ => none

/-! ### Zeros appended -/

theorem isInt {d : TypeDesc} (hd : isIntD d = true) : Builtin.append_.match_1 (fun _ => Bool) d (fun _ => true) (fun _ => false) = true := by cases d <;> first | rfl | cases hd

theorem wrap64' {z : Int} (h0 : 0 ≤ z) (h : z ≤ 140737488355328) : IntKind.i64.wrap z = z := by
  have := wrap64 (n := z.toNat) (by omega)
  rwa [Int.toNat_of_nonneg h0] at this

theorem zeroCells_vals {ks : List IntKind} (hks : 0 < ks.length) (n : Nat) : Builtin.zeroCells (ks.map fun k => Value.int k 0).toArray n = (vals ks (repL n (ks.map fun _ => (0 : Int)))).toArray := by
  have hrep : ∀ m : Nat, (List.replicate m (ks.map fun _ => (0 : Int))).flatten = List.replicate (m * ks.length) 0 := by
    intro m
    have : (ks.map fun _ => (0 : Int)) = List.replicate ks.length 0 := by
      refine List.ext_getElem? fun j => ?_
      by_cases hj : j < ks.length
      · simp [hj]
      · simp [hj]
    rw [this]
    induction m with
    | zero => simp
    | succ m ih => rw [List.replicate_succ, List.flatten_cons, ih, List.replicate_append_replicate]; congr 1; rw [Nat.add_mul]; omega
  apply Array.ext'
  refine List.ext_getElem? fun j => ?_
  rw [vals_get]
  simp only [repL, Int.toNat_natCast, hrep, Builtin.zeroCells, List.size_toArray, List.length_map, Array.toList_map, Array.toList_range, List.getElem?_map]
  by_cases hj : j < n * ks.length
  · rw [List.getElem?_range hj, List.getElem?_replicate, if_pos hj]
    simp only [Option.map_some]
    have hm : j % ks.length < ks.length := Nat.mod_lt _ hks
    congr 1
    have : kindAt ks j = ks[j % ks.length] := by simp [kindAt, hm]
    rw [this]
    simp [hm]
  · have h1 : (List.range (n * ks.length))[j]? = none := by simp; omega
    rw [h1, List.getElem?_replicate, if_neg hj]; rfl

section appendZ
variable {ts : Array TypeId} {t xt e : TypeId} {d : TypeDesc} {sz len cap : Nat} {base : Option Addr} {k : IntKind} {z : Int} (ty : TypeId) {i : TypeInfo} {zv : Value}
  (h0 : ts[0]? = some t) (h1 : ts[1]? = some xt) (hu : P.underlying t = some (.slice e)) (hx : P.underlying xt = some d) (hd : isIntD d = true) (hsz : tySz P e = some sz)
  (hz0 : 0 ≤ z) (hz1 : z ≤ 140737488355328) (hi : P.info? e = some i) (hzv : i.zero = some zv) (hzs : zv.cells.size = sz) (hbt : z.toNat * i.bytes ≤ 140737488355328)
include h0 h1 hu hx hd hsz hz0 hz1 hi hzv hzs hbt

theorem append_fitsZ (hfit : len + z.toNat ≤ cap) : (Builtin.append_ ts ty #[.slice base len cap, .int k z]).run P w =
    match base with
    | some a => ((storeCells (a.add (len * sz)) (Builtin.zeroCells zv.cells z.toNat).toList).run P w).andThen fun _ w' => .ok (.slice base (len + z.toNat) cap) w'
    | none => .ok (.slice none (len + z.toNat) cap) w := by
  have hzt := isInt hd
  have hw := wrap64' hz0 hz1
  have hn0 : ¬ z < 0 := by omega
  have hb48 : ¬ (z * (i.bytes : Int) > 2 ^ 48) := by
    have e1 : (2 : Int) ^ 48 = 281474976710656 := by decide
    have : z * (i.bytes : Int) = ((z.toNat * i.bytes : Nat) : Int) := by rw [Int.natCast_mul, Int.toNat_of_nonneg hz0]
    omega
  have happ : ((if z.toNat * sz = 0 then pure #[] else do pure (Builtin.zeroCells (← zeroValue e).cells z.toNat) : Sem (Array Value))).run P w = .ok (Builtin.zeroCells zv.cells z.toNat) w := by
    by_cases hz : z.toNat * sz = 0
    · rw [if_pos hz]
      have : Builtin.zeroCells zv.cells z.toNat = #[] := by simp [Builtin.zeroCells, hzs, hz]
      rw [this]; rfl
    · rw [if_neg hz]
      simp [zeroValue, typeInfo, hi, hzv]
  cases base with
  | none =>
    unfold Builtin.append_
    simp only [h0, h1, List.getElem?_toArray, List.getElem?_cons_zero, List.getElem?_cons_succ]
    simp only [Sem.run_bind, run_underlying hu, Result.andThen_ok, run_sizeOf' hsz, run_underlying hx, Sem.run_pure, hzt, if_true, asInt, asIntOf, hw, hn0, if_false, typeInfo, run_program, hi, hb48, hfit, Bool.not_true, Bool.false_eq_true, happ]
  | some a =>
    unfold Builtin.append_
    simp only [h0, h1, List.getElem?_toArray, List.getElem?_cons_zero, List.getElem?_cons_succ]
    simp only [Sem.run_bind, run_underlying hu, Result.andThen_ok, run_sizeOf' hsz, run_underlying hx, Sem.run_pure, hzt, if_true, asInt, asIntOf, hw, hn0, if_false, typeInfo, run_program, hi, hb48, hfit, Bool.not_true, Bool.false_eq_true, happ]

theorem append_growsZ {old : Array Value} (hfit : ¬ len + z.toNat ≤ cap) (hm : len + z.toNat ≤ 9223372036854775807)
    (hb : (len + z.toNat) * i.bytes ≤ 140737488355328) (ho : ∀ w', w'.heap = w.heap → (Builtin.firstCells sz len (.slice base len cap)).run P w' = .ok old w') :
    ∃ newCap rest, len + z.toNat ≤ newCap ∧ rest.size = (newCap - (len + z.toNat)) * zv.cells.size ∧ (Builtin.append_ ts ty #[.slice base len cap, .int k z]).run P w =
      .ok (.slice (some ⟨w.heap.size, 0, none⟩) (len + z.toNat) newCap) (w.drew.alloc (.cells (old ++ Builtin.zeroCells zv.cells z.toNat ++ rest) e)) := by
  let n := z.toNat
  let q : Question := .appendCap (len + n) cap e
  let newCap := q.cut (w.tape w.drawn q)
  refine ⟨newCap, Builtin.zeroCells zv.cells (newCap - (len + n)), by simp [newCap, q, Question.cut, n], by simp [Builtin.zeroCells, n], ?_⟩
  have hmax : ¬ (((len + z.toNat : Nat) : Int) > IntKind.i64.max) := by
    have : IntKind.i64.max = 9223372036854775807 := by decide
    omega
  have hcap : ¬ (Builtin.nextslicecap (len + z.toNat) cap * i.bytes > 2 ^ 48) := by
    have h2 := growslice_fits (need := len + z.toNat) (old := cap) (bytes := i.bytes) (by omega) hb
    have : (2 : Nat) ^ 48 = 281474976710656 := by decide
    omega
  have hzval : ∀ w0 : World, (zeroValue e).run P w0 = .ok zv w0 := fun w0 => by simp [zeroValue, typeInfo, hi, hzv]
  have ho' := ho w.drew rfl
  have hzt := isInt hd
  have hw := wrap64' hz0 hz1
  have hn0 : ¬ z < 0 := by omega
  have hb48 : ¬ (z * (i.bytes : Int) > 2 ^ 48) := by
    have e1 : (2 : Int) ^ 48 = 281474976710656 := by decide
    have : z * (i.bytes : Int) = ((z.toNat * i.bytes : Nat) : Int) := by rw [Int.natCast_mul, Int.toNat_of_nonneg hz0]
    omega
  have happ : ∀ w0 : World, ((if z.toNat * sz = 0 then pure #[] else do pure (Builtin.zeroCells (← zeroValue e).cells z.toNat) : Sem (Array Value))).run P w0 = .ok (Builtin.zeroCells zv.cells z.toNat) w0 := by
    intro w0
    by_cases hz : z.toNat * sz = 0
    · rw [if_pos hz]
      have : Builtin.zeroCells zv.cells z.toNat = #[] := by simp [Builtin.zeroCells, hzs, hz]
      rw [this]; rfl
    · rw [if_neg hz]
      simp [zeroValue, typeInfo, hi, hzv]
  unfold Builtin.append_
  simp only [h0, h1, List.getElem?_toArray, List.getElem?_cons_zero, List.getElem?_cons_succ]
  simp only [Sem.run_bind, run_underlying hu, Result.andThen_ok, run_sizeOf' hsz, run_underlying hx, Sem.run_pure, hzt, if_true, asInt, asIntOf, hw, hn0, if_false, typeInfo, run_program, hi, hb48, hfit, Bool.not_true, Bool.false_eq_true, hmax, false_and, hcap,
    run_choose, Question.forced, run_askRoom, World.drew_eq, ho', happ, hzval, newRow, run_newObj, World.alloc_eq]
  rfl
end appendZ

/-! ### What the operations do -/

theorem run_ok_of {α : Type} {x : Sem α} {a : α} {w w' : World} (h : x.run P w = .ok a w') : x.run P w = .ok a w' := h

theorem newRowB_spec {M M' : Mem} {e : TypeId} {r cnt : IE} {ks : List IntKind} {nm : Nat} (h : newRowB M e r cnt ks = some (nm, M')) :
    M.new { elem := e, size := 0, zs := [], tr := .nil, opn := true, row := some (r, cnt, ks) } = some (nm, M') := h

theorem rowFor_row {e : TypeId} {r cnt : IE} {ks : List IntKind} {cells : Array Value} {lo hi : Nat} (hfr : lo = hi ∨ cells.size ≤ lo) (hok : RowOk env r cnt ks) (hc : ∀ j, j < (r.reval env).length → cells[j]? = (vals ks (r.reval env))[j]?) :
    RowFor ρ env { elem := e, size := 0, zs := [], tr := .nil, opn := true, row := some (r, cnt, ks) } cells lo hi := by
  refine ⟨Nat.zero_le _, (fun h => by cases h), hfr, (fun i hi => absurd hi (Nat.not_lt_zero _)), fun r' cnt' ks' h => ?_⟩
  simp only [Option.some.injEq, Prod.mk.injEq] at h
  obtain ⟨rfl, rfl, rfl⟩ := h
  refine ⟨⟨rfl, hok⟩, fun j x hx => ?_⟩
  have hj : j < (r.reval env).length := (List.getElem?_eq_some_iff.1 hx).1
  rw [hc j hj, vals_get, hx]; rfl

/-- a row made by an append that grows -/
theorem post_grow {M M1 M' : Mem} {e : TypeId} {r cnt : IE} {ks : List IntKind} {nm newCap need : Nat} {all rest : Array Value} (H : Holds ρ env M1.get w) (hd : Free L ρ M.next) (hL : M'.next ≤ L)
    (hsub : ∀ m C, M1.get m = some C → M.get m = some C) (hnext : M1.next = M.next) (hM : newRowB M1 e r cnt ks = some (nm, M')) (hok : RowOk env r cnt ks) (hcnt : cnt.eval env = need) (hall : all.toList = vals ks (r.reval env)) (hc : need ≤ newCap) (hrest : rest.size = (newCap - need) * ks.length) :
    ∃ ρ', Post env L ρ M.get M.next w ρ' M'.get M'.next (w.drew.alloc (.cells (all ++ rest) e)) ∧ Rep ρ' env (.rsl (.own nm) (.lit 0) cnt ks.length) (.slice (some ⟨w.heap.size, 0, none⟩) need newCap) := by
  have hM := newRowB_spec hM
  have hlen : all.size = need * ks.length := by
    have := congrArg List.length hall
    rw [vals_length, hok.2.2, hcnt] at this
    simpa using this
  have hrow : RowFor ρ env { elem := e, size := 0, zs := [], tr := .nil, opn := true, row := some (r, cnt, ks) } (all ++ rest) 0 0 := by
    refine rowFor_row (.inl rfl) hok fun j hj => ?_
    have hj' : j < all.size := by rw [hlen]; rw [hok.2.2, hcnt] at hj; simpa using hj
    rw [Array.getElem?_append_left hj', ← hall]; simp
  have hpost := post_alloc (w0 := w.drew) H hd hL hsub hnext hM (.inr rfl) hrow
  refine ⟨_, hpost, ?_⟩
  simp only [Rep]
  have hl0 : (IE.lit 0).eval env = 0 := by simp only [IE.eval]
  refine ⟨need, newCap, hcnt.symm, hc, by omega, .inl ⟨w.heap.size, 0, ⟨_, rset_same _ _ _, rfl⟩, by simp [hl0], ?_⟩⟩
  refine ⟨w.heap.size, ?_⟩
  rw [rset_same, hl0]
  simp only [Int.toNat_zero, Nat.zero_mul, Nat.zero_add, Array.size_append, hlen, hrest]
  congr 2
  rw [← Nat.add_mul]; congr 1; omega

theorem rowOk_cat {a b ca cb : IE} {ks : List IntKind} {r cnt : IE} (hr : r.reval env = a.reval env ++ b.reval env) (hc : cnt.eval env = ca.eval env + cb.eval env) (hks : 0 < ks.length) (ha0 : 0 ≤ ca.eval env) (hb0 : 0 ≤ cb.eval env)
    (ha : (a.reval env).length = (ca.eval env).toNat * ks.length) (hb : (b.reval env).length = (cb.eval env).toNat * ks.length) : RowOk env r cnt ks := by
  refine ⟨hks, by omega, ?_⟩
  rw [hr, List.length_append, ha, hb, hc, ← Nat.add_mul]; congr 1; omega

theorem view_known {M M' : Mem} {e : TypeId} {ks : List IntKind} {nm len' : Nat} {B : Blk} {l : List SV} {r : IE} {b n c : Nat} (H : Holds ρ env M.get w) (hks : 0 < ks.length) (hB : M.get nm = some B) (hel : B.elem = e) (hl : B.cellsFrom 0 (len' * ks.length) = some l) (hr : rowLit ks 0 l = some r)
    (hM : M.set nm (some { elem := e, size := 0, zs := [], tr := .nil, opn := true, row := some (r, .lit (Int.ofNat len'), ks) }) = some M') (g1 : ρ nm = some (b, n)) (g2 : c * ks.length = n) (g3 : len' ≤ c) :
    Holds ρ env M'.get w ∧ M'.next = M.next ∧ (∀ m C, M'.get m = some C → ∃ C', M.get m = some C') ∧ Rep ρ env (.rsl (.own nm) (.lit 0) (.lit (Int.ofNat len')) ks.length) (.slice (some ⟨b, 0, none⟩) len' c) ∧ (∀ m C, m ≠ nm → M'.get m = some C → M.get m = some C) := by
  obtain ⟨hnx, hg⟩ := Mem.set_spec hM
  have hC := H.at hB g1
  obtain ⟨vs, q1, q2⟩ := run_loadCells_own (P := default) hC hl
  obtain ⟨q3, q4⟩ := rowLit_spec hr q2
  have hll := (Blk.cellsFrom_spec _ _ _ hl).1
  have hlit : (IE.lit (Int.ofNat len')).eval env = (len' : Int) := by simp only [IE.eval]; rfl
  have hok : RowOk env r (.lit (Int.ofNat len')) ks := ⟨hks, by rw [hlit]; omega, by rw [q3, hll, hlit]; simp⟩
  obtain ⟨⟨cells, lo, hi, k1, k2, k3, k4⟩, hle, hsh, hrw⟩ := hC
  have hC' : Cellar ρ env { elem := e, size := 0, zs := [], tr := .nil, opn := true, row := some (r, .lit (Int.ofNat len'), ks) } b n w := by
    refine ⟨⟨cells, lo, hi, by rw [← hel]; exact k1, k2, k3, fun i hi => absurd hi (Nat.not_lt_zero _)⟩, Nat.zero_le _, (fun h => by cases h), fun r' cnt' ks' h => ?_⟩
    simp only [Option.some.injEq, Prod.mk.injEq] at h
    obtain ⟨rfl, rfl, rfl⟩ := h
    refine ⟨⟨rfl, hok⟩, fun j x hx => ?_⟩
    have hj : j < len' * ks.length := by
      have := (List.getElem?_eq_some_iff.1 hx).1
      rw [q3, hll] at this; exact this
    obtain ⟨_, c2, c3⟩ := Blk.cellsFrom_spec _ _ _ hl
    have hlj : l[j]? = some (l[j]'(by omega)) := List.getElem?_eq_getElem _
    have hB2 := c3 j _ hlj
    rw [Nat.zero_add] at hB2
    obtain ⟨s, v, a1, a2, a3, a4⟩ := k4 j (by have := c2 (by omega); omega)
    have hv : w.cell? ⟨b, 0 + j, none⟩ = some v := by simp [World.cell?, k1, a3]
    have hvs : vs[j]? = some v := by
      obtain ⟨v', b1, b2⟩ := q2.get j _ hlj
      let f : Nat → Value := fun i => (w.cell? ⟨b, i, none⟩).getD undef
      have hrun := run_loadCells (P := default) w ⟨b, 0, none⟩ (len' * ks.length) f (fun i hi => by
        obtain ⟨s', v'', d1, d2, d3, d4⟩ := k4 i (by have := c2 (by omega); omega)
        rw [addr_add, Nat.zero_add]
        simp [f, World.cell?, k1, d3])
      rw [q1] at hrun
      cases hrun
      simp only [Nat.zero_add] at hv
      simp [hj, f, hv]
    have := q4 j
    simp only [Array.getElem?_toList] at this
    rw [hvs, hx, Nat.zero_add] at this
    rw [hv, this]; rfl
  refine ⟨⟨fun m C hm => ?_, fun m m' C C' b' n1 n2 h1 h2 h3 h4 => ?_, fun i R hR => ?_⟩, hnx, fun m C hm => ?_, ?_, fun m C hne hm => by rw [hg m, if_neg hne] at hm; exact hm⟩
  · rw [hg m] at hm
    split at hm
    · rename_i he; subst he; cases hm; exact ⟨b, n, g1, hC'⟩
    · exact H.blk m C hm
  · have back : ∀ m C, M'.get m = some C → ∃ C', M.get m = some C' := by
      intro m C hm
      rw [hg m] at hm
      split at hm
      · rename_i he; subst he; exact ⟨B, hB⟩
      · exact ⟨C, hm⟩
    obtain ⟨D, hD⟩ := back m C h1
    obtain ⟨D', hD'⟩ := back m' C' h2
    exact H.inj m m' D D' b' n1 n2 hD hD' h3 h4
  · obtain ⟨z1, z2, z3⟩ := H.ro i R hR
    refine ⟨z1, z2, fun m C n' hm => ?_⟩
    rw [hg m] at hm
    split at hm
    · rename_i he; subst he; exact z3 m B n' hB
    · exact z3 m C n' hm
  · rw [hg m] at hm
    split at hm
    · rename_i he; subst he; exact ⟨B, hB⟩
    · exact ⟨C, hm⟩
  · simp only [Rep]
    have hl0 : (IE.lit 0).eval env = 0 := by simp only [IE.eval]
    refine ⟨len', c, hlit.symm, g3, by omega, .inl ⟨b, 0, ⟨n, g1, rfl⟩, by simp [hl0], ⟨b, ?_⟩⟩⟩
    rw [g1, hl0]
    simp only [Int.toNat_zero, Nat.zero_mul, Nat.zero_add]
    rw [← g2]

theorem viewRow_spec {M M0 : Mem} {e : TypeId} {ks : List IntKind} {x : SV} {nm : Nat} {len : IE} {u : Value} (H : Holds ρ env M.get w) (hks : 0 < ks.length) (h : viewRow M e ks x = some (M0, nm, len)) (hx : Rep ρ env x u) :
    Holds ρ env M0.get w ∧ M0.next = M.next ∧ (∀ m C, M0.get m = some C → ∃ C', M.get m = some C') ∧ Rep ρ env (.rsl (.own nm) (.lit 0) len ks.length) u ∧ (∀ m C, m ≠ nm → M0.get m = some C → M.get m = some C) := by
  unfold viewRow at h
  split at h
  · rename_i nm' len' esz
    split at h <;> try (cases h; done)
    rename_i h1
    have := Nat.eq_of_beq_eq_true h1; subst this
    cases h
    exact ⟨H, rfl, fun m C hm => ⟨C, hm⟩, hx, fun _ _ _ h => h⟩
  · rename_i nm' len' esz
    split at h <;> try (cases h; done)
    rename_i B hB h1
    have := Nat.eq_of_beq_eq_true h1; subst this
    split at h <;> try (cases h; done)
    rename_i l hel hl hrow
    have hel := Nat.eq_of_beq_eq_true hel
    split at h <;> try (cases h; done)
    rename_i r hr
    split at h <;> try (cases h; done)
    rename_i M' hM
    cases h
    simp only [Rep] at hx
    obtain ⟨b, n, c, g1, rfl, g2, g3⟩ := hx
    exact view_known H hks hB hel hl hr hM g1 (by rw [← g2]; exact (Nat.zero_add _).symm) g3
  · rename_i nm' len' cap
    split at h <;> try (cases h; done)
    rename_i B hB
    split at h <;> try (cases h; done)
    rename_i l hel hsz hlc hop hl hrow
    have hel := Nat.eq_of_beq_eq_true hel
    have hsz := Nat.eq_of_beq_eq_true hsz
    split at h <;> try (cases h; done)
    rename_i r hr
    split at h <;> try (cases h; done)
    rename_i M' hM
    cases h
    simp only [Rep] at hx
    obtain ⟨b, n, g1, rfl⟩ := hx
    have hC := H.at hB g1
    exact view_known H hks hB hel hl hr hM g1 (by rw [← hsz]; exact hC.shut hop) (ble_true hlc)
  · cases h

/-- What an append of nn elements, whose cells are vs, does. -/
structure AppRun (P : Program) (w : World) (call : Value → Sem Value) (e : TypeId) (bytes esz nn : Nat) (vs : Array Value) : Prop where
  fits : ∀ base sl cap, sl + nn ≤ cap → (call (.slice base sl cap)).run P w =
    match base with
    | some a => ((storeCells (a.add (sl * esz)) vs.toList).run P w).andThen fun _ w' => .ok (.slice base (sl + nn) cap) w'
    | none => .ok (.slice none (sl + nn) cap) w
  grows : ∀ base sl cap old, ¬ sl + nn ≤ cap → sl + nn ≤ 9223372036854775807 → (sl + nn) * bytes ≤ 140737488355328 → (∀ w', w'.heap = w.heap → (Builtin.firstCells esz sl (.slice base sl cap)).run P w' = .ok old w') →
    ∃ newCap rest, sl + nn ≤ newCap ∧ rest.size = (newCap - (sl + nn)) * esz ∧ (call (.slice base sl cap)).run P w = .ok (.slice (some ⟨w.heap.size, 0, none⟩) (sl + nn) newCap) (w.drew.alloc (.cells (old ++ vs ++ rest) e))

/-- nothing there, something appended -/
theorem app_none {M M' : Mem} {e : TypeId} {i : TypeInfo} {ks : List IntKind} {ry n : IE} {nm : Nat} {call : Value → Sem Value} {a : Option Addr} (H : Holds ρ env M.get w) (hd : Free L ρ M.next) (hL : M'.next ≤ L)
    (hrun : AppRun P w call e i.bytes ks.length (n.eval env).toNat (vals ks (ry.reval env)).toArray) (hks : 0 < ks.length) (hn : 0 < n.eval env) (hry : (ry.reval env).length = (n.eval env).toNat * ks.length)
    (hmax : n.eval env ≤ 140737488355328) (hroom : (n.eval env).toNat * i.bytes ≤ 140737488355328) (hM : newRowB M e ry n ks = some (nm, M')) :
    ∃ r w' ρ', (call (.slice a 0 0)).run P w = .ok r w' ∧ Rep ρ' env (.rsl (.own nm) (.lit 0) n ks.length) r ∧ Post env L ρ M.get M.next w ρ' M'.get M'.next w' := by
  obtain ⟨newCap, rest, c1, c2, c3⟩ := hrun.grows a 0 0 #[] (by omega) (by omega) (by rw [Nat.zero_add]; exact hroom) (fun w' _ => by
    cases a with
    | none => rfl
    | some a => simp [Builtin.firstCells, loadCells, loadCellsFrom])
  rw [Nat.zero_add] at c1 c2 c3
  obtain ⟨ρ', h1, h2⟩ := post_grow (need := (n.eval env).toNat) (rest := rest) (all := #[] ++ (vals ks (ry.reval env)).toArray) H hd hL (fun _ _ h => h) rfl hM ⟨hks, by omega, hry⟩ (by omega) (by simp) c1 c2
  exact ⟨_, _, ρ', c3, h2, h1⟩

theorem app_rsl {M M0 M1 M' : Mem} {e : TypeId} {i : TypeInfo} {ks : List IntKind} {r cnt len ry n : IE} {nm nm' : Nat} {B : Blk} {call : Value → Sem Value} {u : Value} (H : Holds ρ env M0.get w) (hd : Free L ρ M.next) (hL : M'.next ≤ L) (hnx : M0.next = M.next)
    (hback : ∀ m C, M0.get m = some C → ∃ C', M.get m = some C') (hback2 : ∀ m C, m ≠ nm → M0.get m = some C → M.get m = some C)
    (hrun : AppRun P w call e i.bytes ks.length (n.eval env).toNat (vals ks (ry.reval env)).toArray) (hks : 0 < ks.length) (hn : 0 ≤ n.eval env) (hry : (ry.reval env).length = (n.eval env).toNat * ks.length)
    (hmax : (plusE len n).eval env ≤ 140737488355328) (hroom : ∀ m : Nat, (m : Int) ≤ (plusE len n).eval env → m * i.bytes ≤ 140737488355328)
    (hx : Rep ρ env (.rsl (.own nm) (.lit 0) len ks.length) u) (hB : M0.get nm = some B) (hrow : B.row = some (r, cnt, ks)) (hel : B.elem = e) (hlen : 0 ≤ len.eval env) (hin : len.eval env ≤ cnt.eval env)
    (hM1 : M0.set nm none = some M1) (hM : newRowB M1 e (.cat (subE r (.lit 0) len cnt ks.length) ry) (plusE len n) ks = some (nm', M')) :
    ∃ v w' ρ', (call u).run P w = .ok v w' ∧ Rep ρ' env (.rsl (.own nm') (.lit 0) (plusE len n) ks.length) v ∧ Post env L ρ M.get M.next w ρ' M'.get M'.next w' := by
  obtain ⟨hnx1, hg1⟩ := Mem.set_spec hM1
  obtain ⟨rfl, hnx2, hg2⟩ := Mem.new_spec (newRowB_spec hM)
  obtain ⟨bb, kk, hbb, hC⟩ := H.blk nm B hB
  obtain ⟨⟨_, hok⟩, hat⟩ := hC.rows r cnt ks hrow
  have hl0 : (IE.lit 0).eval env = 0 := by simp only [IE.eval]
  have hpl := plusE_eval env len n
  have hsub : (subE r (.lit 0) len cnt ks.length).reval env = (r.reval env).take ((len.eval env).toNat * ks.length) := by
    rw [subE_eval hok.2.2, hl0, subL]; simp
  have hsublen : ((subE r (.lit 0) len cnt ks.length).reval env).length = (len.eval env).toNat * ks.length := by
    rw [hsub, List.length_take, hok.2.2]
    exact Nat.min_eq_left (Nat.mul_le_mul_right _ (by omega))
  have hcat : (IE.cat (subE r (.lit 0) len cnt ks.length) ry).reval env = (subE r (.lit 0) len cnt ks.length).reval env ++ ry.reval env := by simp only [IE.reval]
  have hok' : RowOk env (.cat (subE r (.lit 0) len cnt ks.length) ry) (plusE len n) ks := rowOk_cat hcat hpl hks hlen hn hsublen hry
  have hvals : vals ks ((IE.cat (subE r (.lit 0) len cnt ks.length) ry).reval env) = vals ks ((subE r (.lit 0) len cnt ks.length).reval env) ++ vals ks (ry.reval env) := by
    rw [hcat, vals_append _ _ _ _ hsublen]
  have H1 : Holds ρ env M1.get w := H.less fun m C hm => by
    rw [hg1 m] at hm
    split at hm
    · cases hm
    · exact hm
  -- from M0 to M: the same names
  have toM : ∀ ρ' g' nx' w', Post env L ρ M0.get M.next w ρ' g' nx' w' → Post env L ρ M.get M.next w ρ' g' nx' w' := by
    intro ρ' g' nx' w' hp
    refine ⟨hp.ext, hp.holds, hp.le, hp.dom, fun k hk hno => hp.frame k hk fun m C n' hm => ?_, fun m C b n' h1 h2 => ?_, hp.size, hp.os, hp.tape, hp.output⟩
    · obtain ⟨C', hC'⟩ := hback m C hm
      exact hno m C' n' hC'
    · rcases hp.own m C b n' h1 h2 with h3 | ⟨m0, C0, n0, h3, h4⟩
      · exact .inl h3
      · obtain ⟨C', hC'⟩ := hback m0 C0 h3
        exact .inr ⟨m0, C', n0, hC', h4⟩
  have hfree : ρ M1.next = none := hd _ (by omega) (by omega)
  have hsub1 : ∀ m C, M1.get m = some C → M.get m = some C := fun m C hm => by
    rw [hg1 m] at hm
    split at hm
    · cases hm
    · rename_i hne; exact hback2 m C hne hm
  simp only [Rep] at hx
  obtain ⟨l, c, g1, g2, g3, g4⟩ := hx
  have hl : (len.eval env).toNat = l := by omega
  have hgg : ∀ m, M'.get m = if m = M0.next then some { elem := e, size := 0, zs := [], tr := .nil, opn := true, row := some (.cat (subE r (.lit 0) len cnt ks.length) ry, plusE len n, ks) } else if m = nm then none else M0.get m := by
    intro m
    rw [hg2 m, hnx1, hg1 m]
  rcases g4 with ⟨b, base, ⟨n', p1, rfl⟩, rfl, b', p3⟩ | ⟨rfl, p1, a, rfl⟩
  · rw [hbb] at p1; cases p1
    rw [hbb, hl0] at p3
    simp only [Int.toNat_zero, Nat.zero_mul, Nat.zero_add, Option.some.injEq, Prod.mk.injEq] at p3
    obtain ⟨rfl, p3⟩ := p3
    simp only [hl0, Int.toNat_zero, Nat.zero_mul, Nat.add_zero]
    by_cases hfit : l + (n.eval env).toNat ≤ c
    · -- in place
      have hr := hrun.fits (some ⟨bb, 0, none⟩) l c hfit
      simp only [addr_add, Nat.zero_add] at hr
      obtain ⟨⟨cells, lo, hi, k1, k2, k3, k4⟩, hle, hsh, hrw⟩ := hC
      have hfit2 : l * ks.length + (n.eval env).toNat * ks.length ≤ kk := by
        rw [← Nat.add_mul, p3]; exact Nat.mul_le_mul_right _ hfit
      obtain ⟨w', s1, s2, c', s3, s4, s5⟩ := store_row (P := P) (b := bb) (o := l * ks.length) (n := kk) k3 (vals ks (ry.reval env)) 0 w cells k1 k2 (by rw [vals_length, hry]; omega) (vals_one _ _)
      rw [s1] at hr
      simp only [Result.andThen_ok] at hr
      have hC' : Cellar (rset ρ M0.next (bb, kk)) env { elem := e, size := 0, zs := [], tr := .nil, opn := true, row := some (.cat (subE r (.lit 0) len cnt ks.length) ry, plusE len n, ks) } bb kk w' := by
        refine ⟨⟨c', lo, hi, by rw [← hel]; exact s3, s4, k3, fun i hi => absurd hi (Nat.not_lt_zero _)⟩, Nat.zero_le _, (fun h => by cases h), fun r2 cnt2 ks2 h => ?_⟩
        simp only [Option.some.injEq, Prod.mk.injEq] at h
        obtain ⟨rfl, rfl, rfl⟩ := h
        refine ⟨⟨rfl, hok'⟩, fun j x hx => ?_⟩
        have hj := (List.getElem?_eq_some_iff.1 hx).1
        rw [hcat, List.length_append, hsublen, hry, hl] at hj
        have hv := vals_get ks ((IE.cat (subE r (.lit 0) len cnt ks.length) ry).reval env) j
        rw [hx, hvals, List.getElem?_append, vals_length, hsublen, hl] at hv
        simp only [World.cell?, s3, Nat.zero_add]
        have h5 := s5 j
        rw [vals_length, hry] at h5
        simp only [Nat.add_zero] at h5
        by_cases hj2 : j < l * ks.length
        · have : ¬ (l * ks.length ≤ j ∧ j < l * ks.length + (n.eval env).toNat * ks.length) := by omega
          rw [if_neg this] at h5
          rw [if_pos hj2, hsub, hl, vals_take, List.getElem?_take, if_pos hj2] at hv
          have hjr : j < (r.reval env).length := by rw [hok.2.2]; have := Nat.mul_le_mul_right ks.length (show l ≤ (cnt.eval env).toNat by omega); omega
          have hc0 := rowAt_vals hat j hjr
          simp only [World.cell?, k1, Nat.zero_add] at hc0
          rw [List.getElem?_eq_getElem (by rw [vals_length]; exact hjr)] at hv
          simp only [Option.isSome_none, Bool.false_eq_true, if_false] at hc0 ⊢
          rw [h5, hc0, hv]; rfl
        · have : l * ks.length ≤ j ∧ j < l * ks.length + (n.eval env).toNat * ks.length := by omega
          rw [if_pos this] at h5
          rw [if_neg hj2] at hv
          simp only [Option.isSome_none, Bool.false_eq_true, if_false]
          rw [h5, hv]; rfl
      have hpost := post_rename (next' := M'.next) H (by rw [hnx]; exact hd) (by omega) (by omega) hB hbb hgg s2 hC'
      rw [hnx] at hpost
      refine ⟨_, w', _, hr, ?_, toM _ _ _ _ hpost⟩
      simp only [Rep]
      refine ⟨l + (n.eval env).toNat, c, by omega, hfit, by omega, .inl ⟨bb, 0, ⟨kk, by rw [hnx1, hnx, rset_same], rfl⟩, by simp [hl0], ⟨bb, ?_⟩⟩⟩
      rw [hnx1, hnx, rset_same, hl0]
      simp [p3]
    · have hold : ∀ w', w'.heap = w.heap → (Builtin.firstCells ks.length l (.slice (some ⟨bb, 0, none⟩) l c)).run P w' = .ok (vals ks ((subE r (.lit 0) len cnt ks.length).reval env)).toArray w' := by
        intro w' hh
        simp only [Builtin.firstCells]
        have := load_part (P := P) hat 0 l (by rw [hok.2.2, Nat.zero_add]; exact Nat.mul_le_mul_right _ (by omega)) hh
        simpa [hsub, hl] using this
      obtain ⟨newCap, rest, c1, c2, c3⟩ := hrun.grows (some ⟨bb, 0, none⟩) l c _ hfit (by omega) (hroom _ (by omega)) hold
      obtain ⟨ρ', h1, h2⟩ := post_grow (M := M) (need := l + (n.eval env).toNat) (rest := rest) (all := (vals ks ((subE r (.lit 0) len cnt ks.length).reval env)).toArray ++ (vals ks (ry.reval env)).toArray) H1 hd hL hsub1 (hnx1.trans hnx) hM hok' (by omega) (by simp [hvals]) c1 c2
      exact ⟨_, _, ρ', c3, h2, h1⟩
  · have hn0 : (IE.lit 0).eval env = 0 := hl0
    simp only [plNil] at p1
    subst p1
    by_cases hz : n.eval env = 0
    · have hnn : (n.eval env).toNat = 0 := by omega
      have hr := hrun.fits a 0 0 (by omega)
      have hempty : (vals ks (ry.reval env)) = [] := by
        have : (ry.reval env).length = 0 := by rw [hry, hnn]; simp
        have := List.eq_nil_of_length_eq_zero this
        rw [this]; rfl
      have hr' : (call (.slice a 0 0)).run P w = .ok (.slice a 0 0) w := by
        rw [hr, hempty, hnn]
        cases a <;> simp [storeCells]
      have hrow0 : (IE.cat (subE r (.lit 0) len cnt ks.length) ry).reval env = [] := by
        have h1 : ((IE.cat (subE r (.lit 0) len cnt ks.length) ry).reval env).length = 0 := by rw [hok'.2.2, hpl]; have : (len.eval env + n.eval env).toNat = 0 := by omega
                                                                                               rw [this]; simp
        exact List.eq_nil_of_length_eq_zero h1
      obtain ⟨⟨cells, lo, hi, k1, k2, k3, k4⟩, hle, hsh, hrw⟩ := hC
      have hC' : Cellar (rset ρ M0.next (bb, kk)) env { elem := e, size := 0, zs := [], tr := .nil, opn := true, row := some (.cat (subE r (.lit 0) len cnt ks.length) ry, plusE len n, ks) } bb kk w := by
        refine ⟨⟨cells, lo, hi, by rw [← hel]; exact k1, k2, k3, fun i hi => absurd hi (Nat.not_lt_zero _)⟩, Nat.zero_le _, (fun h => by cases h), fun r2 cnt2 ks2 h => ?_⟩
        simp only [Option.some.injEq, Prod.mk.injEq] at h
        obtain ⟨rfl, rfl, rfl⟩ := h
        refine ⟨⟨rfl, hok'⟩, fun j x hx => ?_⟩
        rw [hrow0] at hx; simp at hx
      have hpost := post_rename (next' := M'.next) H (by rw [hnx]; exact hd) (by omega) (by omega) hB hbb hgg ⟨rfl, fun _ _ => rfl, rfl, rfl, rfl⟩ hC'
      rw [hnx] at hpost
      refine ⟨_, w, _, hr', ?_, toM _ _ _ _ hpost⟩
      simp only [Rep]
      exact ⟨0, 0, by omega, Nat.le_refl _, by omega, .inr ⟨rfl, rfl, a, rfl⟩⟩
    · obtain ⟨newCap, rest, c1, c2, c3⟩ := hrun.grows a 0 0 #[] (by omega) (by omega) (hroom _ (by omega)) (fun w' _ => by
        cases a with
        | none => rfl
        | some a => simp [Builtin.firstCells, loadCells, loadCellsFrom])
      have hs0 : (subE r (.lit 0) len cnt ks.length).reval env = [] := by
        apply List.eq_nil_of_length_eq_zero
        rw [hsublen, hl]; simp
      rw [Nat.zero_add] at c1 c2 c3
      obtain ⟨ρ', h1, h2⟩ := post_grow (M := M) (need := (n.eval env).toNat) (rest := rest) (all := #[] ++ (vals ks (ry.reval env)).toArray) H1 hd hL hsub1 (hnx1.trans hnx) hM hok' (by omega) (by rw [hvals, hs0]; simp [vals]) c1 c2
      exact ⟨_, _, ρ', c3, h2, h1⟩

theorem setsE_spec {ks : List IntKind} {idx : IE} {esz : Nat} (h0 : 0 ≤ idx.eval env) (hk : ks.length = esz) : ∀ {l : List SV} {fld : Nat} {r r' : IE} {vs : List Value}, setsE r idx esz fld l = some r' → kindsAre ks fld l = true → fld + l.length ≤ esz → RepL ρ env l vs →
    ((idx.eval env).toNat * esz + esz ≤ (r.reval env).length) →
    (r'.reval env).length = (r.reval env).length ∧ ∀ j, (vals ks (r'.reval env))[j]? = if (idx.eval env).toNat * esz + fld ≤ j ∧ j < (idx.eval env).toNat * esz + fld + l.length then vs[j - ((idx.eval env).toNat * esz + fld)]? else (vals ks (r.reval env))[j]?
  | [], fld, r, r', vs, h, hk2, hf, hr, hl => by
    simp only [setsE, Option.some.injEq] at h; subst h
    refine ⟨rfl, fun j => ?_⟩
    have : ¬ ((idx.eval env).toNat * esz + fld ≤ j ∧ j < (idx.eval env).toNat * esz + fld + ([] : List SV).length) := by simp
    rw [if_neg this]
  | s :: l, fld, r, r', vs, h, hk2, hf, hr, hl => by
    simp only [setsE] at h
    split at h <;> try (cases h; done)
    rename_i k e he
    simp only [kindsAre, he, Bool.and_eq_true] at hk2
    simp only [RepL] at hr
    obtain ⟨v, vs', rfl, h2, h3⟩ := hr
    simp only [List.length_cons] at hf
    have hlen1 : ((IE.set r idx esz fld e).reval env).length = (r.reval env).length := by simp [IE.reval, setL']
    obtain ⟨q1, q2⟩ := setsE_spec h0 hk h hk2.2 (by simp only [Nat.succ_eq_add_one]; omega) h3 (by rw [hlen1]; exact hl)
    refine ⟨q1.trans hlen1, fun j => ?_⟩
    rw [q2 j]
    have hsucc : Nat.succ fld = fld + 1 := rfl
    rw [hsucc]
    by_cases hj : (idx.eval env).toNat * esz + (fld + 1) ≤ j ∧ j < (idx.eval env).toNat * esz + (fld + 1) + l.length
    · have : (idx.eval env).toNat * esz + fld ≤ j ∧ j < (idx.eval env).toNat * esz + fld + (s :: l).length := by simp only [List.length_cons]; omega
      rw [if_pos hj, if_pos this]
      have e2 : j - ((idx.eval env).toNat * esz + fld) = (j - ((idx.eval env).toNat * esz + (fld + 1))) + 1 := by omega
      rw [e2, List.getElem?_cons_succ]
    · rw [if_neg hj]
      by_cases hj0 : j = (idx.eval env).toNat * esz + fld
      · subst hj0
        have : (idx.eval env).toNat * esz + fld ≤ (idx.eval env).toNat * esz + fld ∧ (idx.eval env).toNat * esz + fld < (idx.eval env).toNat * esz + fld + (s :: l).length := by simp
        rw [if_pos this, vals_get]
        simp only [IE.reval, setL', Nat.sub_self, List.getElem?_cons_zero]
        rw [List.getElem?_set_self (by omega)]
        have hv := toIE_spec he h2
        have hkk := kEq_spec hk2.1
        subst hk
        rw [nthK_eq (by omega)]
        simp [hv, hkk]
      · have : ¬ ((idx.eval env).toNat * esz + fld ≤ j ∧ j < (idx.eval env).toNat * esz + fld + (s :: l).length) := by simp only [List.length_cons]; omega
        rw [if_neg this, vals_get, vals_get]
        simp only [IE.reval, setL']
        rw [List.getElem?_set_ne (by omega)]

theorem run_xstore {M M' : Mem} {t : TypeId} {nm : Nat} {idx r r' cnt : IE} {ks : List IntKind} {esz fld n : Nat} {B : Blk} {s : SV} {u v : Value} (H : Holds ρ env M.get w) (hd : Free L ρ M.next)
    (ha : Rep ρ env (.rptr (.own nm) idx esz fld) u) (hs : Rep ρ env s v) (hB : M.get nm = some B) (hrow : B.row = some (r, cnt, ks)) (hk : ks.length = esz) (ht : s.isTuple = false) (hn : tySz P t = some n) (hsn : s.cells.length = n) (hf : fld + n ≤ esz)
    (hkk : kindsAre ks fld s.cells = true) (hset : setsE r idx esz fld s.cells = some r') (hlt : idx.eval env < cnt.eval env) (hM : M.set nm (some { B with row := some (r', cnt, ks) }) = some M') :
    ∃ w', (Instr.storeAt t u v).run P w = .ok () w' ∧ Post env L ρ M.get M.next w ρ M'.get M'.next w' := by
  obtain ⟨hnx, hg⟩ := Mem.set_spec hM
  simp only [Rep] at ha
  obtain ⟨b, base, ⟨n', h1, rfl⟩, h2, rfl⟩ := ha
  have hC := H.at hB h1
  obtain ⟨⟨hsz0, hok⟩, hat⟩ := hC.rows r cnt ks hrow
  have hcells := hs.cells ht
  have hlen : v.cells.size = s.cells.length := by have := hcells.length; simpa using this
  have hroom : (idx.eval env).toNat * esz + esz ≤ (r.reval env).length := by
    rw [hok.2.2, hk]
    have : ((idx.eval env).toNat + 1) * esz ≤ (cnt.eval env).toNat * esz := Nat.mul_le_mul_right _ (by omega)
    rwa [Nat.add_mul, Nat.one_mul] at this
  obtain ⟨q1, q2⟩ := setsE_spec h2 hk hset hkk (by omega) hcells hroom
  obtain ⟨⟨cells, lo, hi, k1, k2, k3, k4⟩, hle, hsh, hrw⟩ := hC
  have hrl : (r.reval env).length ≤ n' := by
    rcases Nat.lt_or_ge n' (r.reval env).length with hh | hh
    · exfalso
      have := hat n' _ (List.getElem?_eq_getElem hh)
      simp only [World.cell?, k1, Nat.zero_add, Option.isSome_none, Bool.false_eq_true, if_false] at this
      have h3 := (Array.getElem?_eq_some_iff.1 this).1
      omega
    · exact hh
  have hone : ∀ z ∈ v.cells.toList, z.oneCell' = true := by
    intro z hz
    obtain ⟨j, hj⟩ := List.getElem?_of_mem hz
    have hjl : j < s.cells.length := by
      have := (List.getElem?_eq_some_iff.1 hj).1
      simp at this; omega
    obtain ⟨z', z1, z2⟩ := hcells.get j _ (List.getElem?_eq_getElem hjl)
    rw [hj] at z1; cases z1
    have : ∀ (l : List SV) fld, kindsAre ks fld l = true → ∀ x ∈ l, x.one = true := by
      intro l
      induction l with
      | nil => intro _ _ x hx; cases hx
      | cons y l ih =>
        intro fld h x hx
        simp only [kindsAre] at h
        split at h
        · rename_i k e he
          simp only [Bool.and_eq_true] at h
          cases hx with
          | head => cases y <;> simp only [toIE] at he <;> first | (cases he; done) | rfl
          | tail _ hm => exact ih _ h.2 x hm
        · cases h
    exact z2.one (this _ _ hkk _ (List.getElem_mem hjl))
  obtain ⟨w', s1, s2, c', s3, s4, s5⟩ := store_row (P := P) (b := b) (o := 0 + (idx.eval env).toNat * esz + fld) (n := n') k3 v.cells.toList 0 w cells k1 k2 (by simp only [Array.length_toList]; omega) hone
  have hC' : Cellar ρ env { B with row := some (r', cnt, ks) } b n' w' := by
    refine ⟨⟨c', lo, hi, s3, s4, k3, fun i hi => by simp only [] at hi; omega⟩, hle, hsh, fun r2 cnt2 ks2 h => ?_⟩
    simp only [Option.some.injEq, Prod.mk.injEq] at h
    obtain ⟨rfl, rfl, rfl⟩ := h
    refine ⟨⟨hsz0, hok.1, hok.2.1, by rw [q1]; exact hok.2.2⟩, fun j x hx => ?_⟩
    have hj := (List.getElem?_eq_some_iff.1 hx).1
    rw [q1] at hj
    have hv := vals_get ks (r'.reval env) j
    rw [hx, q2 j] at hv
    simp only [World.cell?, s3, Nat.zero_add, Option.isSome_none, Bool.false_eq_true, if_false]
    rw [s5 j]
    simp only [Nat.zero_add, Nat.add_zero, Array.length_toList, hlen]
    have hc0 := rowAt_vals hat j hj
    simp only [World.cell?, k1, Nat.zero_add, Option.isSome_none, Bool.false_eq_true, if_false] at hc0
    split
    · rename_i hh; rw [if_pos hh] at hv; exact hv
    · rename_i hh
      rw [if_neg hh, List.getElem?_eq_getElem (by rw [vals_length]; exact hj)] at hv
      rw [hc0]; exact hv
  refine ⟨w', ?_, by rw [hnx]; exact post_upd H hd hB h1 hg s2 hC'⟩
  have hne : ¬ (v.cells.size ≠ n) := by omega
  simp only [Instr.storeAt, Instr.sureAddr, storeVar, Sem.run_bind, Sem.run_pure, Result.andThen_ok, run_sizeOf' hn, hne, if_false]
  exact s1

theorem repL_len (n : Int) (ks : List IntKind) : (repL n (ks.map fun _ => (0 : Int))).length = n.toNat * ks.length := by
  simp [repL]

theorem run_xmake {M M' : Mem} {t e : TypeId} {ks : List IntKind} {el ec : IE} {k k' : IntKind} {i : TypeInfo} {zv : Value} {nm : Nat} (H : Holds ρ env M.get w) (hd : Free L ρ M.next) (hL : M'.next ≤ L) (hu : P.underlying t = some (.slice e)) (hks : 0 < ks.length) (hsz : tySz P e = some ks.length)
    (hi : P.info? e = some i) (hzv : i.zero = some zv) (hzc : zv.cells = (ks.map fun k => Value.int k 0).toArray) (h0 : 0 ≤ el.eval env) (h1 : el.eval env ≤ ec.eval env) (hmax : ec.eval env ≤ 140737488355328) (hroom : ∀ n : Nat, (n : Int) ≤ ec.eval env → n * i.bytes ≤ 140737488355328)
    (hM : newRowB M e (.rep ec (.rcon (ks.map fun _ => 0))) ec ks = some (nm, M')) :
    ∃ r w' ρ', (Instr.makeSlice t (.int k (el.eval env)) (.int k' (ec.eval env))).run P w = .ok r w' ∧ Rep ρ' env (.rsl (.own nm) (.lit 0) el ks.length) r ∧ Post env L ρ M.get M.next w ρ' M'.get M'.next w' := by
  have hrow : (IE.rep ec (.rcon (ks.map fun _ => 0))).reval env = repL (ec.eval env) (ks.map fun _ => 0) := by simp only [IE.reval]
  have hok : RowOk env (.rep ec (.rcon (ks.map fun _ => 0))) ec ks := ⟨hks, by omega, by rw [hrow, repL_len]⟩
  have hzs : zv.cells.size = ks.length := by rw [hzc]; simp
  let cells : Array Value := Builtin.zeroCells zv.cells (ec.eval env).toNat
  have hcells : cells = (vals ks (repL (ec.eval env) (ks.map fun _ => 0))).toArray := by
    have := zeroCells_vals hks (ec.eval env).toNat
    rw [show ((ec.eval env).toNat : Int) = ec.eval env by omega] at this
    simp only [cells, hzc]; exact this
  have hcs : cells.size = (ec.eval env).toNat * ks.length := by rw [hcells]; simp [vals_length, repL_len]
  have hrf : RowFor ρ env { elem := e, size := 0, zs := [], tr := .nil, opn := true, row := some (.rep ec (.rcon (ks.map fun _ => 0)), ec, ks) } cells 0 0 := by
    refine rowFor_row (.inl rfl) hok fun j hj => ?_
    rw [hcells, hrow]; simp
  have hpost := post_alloc (w0 := w) H hd hL (fun _ _ h => h) rfl (newRowB_spec hM) (.inl rfl) hrf
  refine ⟨.slice (some ⟨w.heap.size, 0, none⟩) (el.eval env).toNat (ec.eval env).toNat, _, _, ?_, ?_, hpost⟩
  · have hw1 : IntKind.i64.wrap (el.eval env) = el.eval env := wrap64' h0 (by omega)
    have hw2 : IntKind.i64.wrap (ec.eval env) = ec.eval env := wrap64' (by omega) hmax
    have hbig : ¬ ((i.bytes : Int) * ec.eval env > 2 ^ 48) := by
      have e1 : (2 : Int) ^ 48 = 281474976710656 := by decide
      have h2 := hroom (ec.eval env).toNat (by omega)
      have : (i.bytes : Int) * ec.eval env = (((ec.eval env).toNat * i.bytes : Nat) : Int) := by rw [Int.natCast_mul, Int.toNat_of_nonneg (by omega), Int.mul_comm]
      omega
    have hn0 : ¬ ec.eval env < 0 := by omega
    have hn1 : ¬ el.eval env < 0 := by omega
    have hn2 : ¬ el.eval env > ec.eval env := by omega
    have hzrun : ((if (ec.eval env).toNat * ks.length = 0 then pure #[] else do pure (← zeroValue e).cells : Sem (Array Value))).run P w = .ok (if (ec.eval env).toNat * ks.length = 0 then #[] else zv.cells) w := by
      by_cases hz : (ec.eval env).toNat * ks.length = 0
      · simp [hz]
      · simp [hz, zeroValue, typeInfo, hi, hzv]
    have hcell2 : (Array.range ((ec.eval env).toNat * ks.length)).map ((if (ec.eval env).toNat * ks.length = 0 then #[] else zv.cells)[· % (if (ec.eval env).toNat * ks.length = 0 then #[] else zv.cells).size]!) = cells := by
      by_cases hz : (ec.eval env).toNat * ks.length = 0
      · have : cells.size = 0 := by rw [hcs, hz]
        have h3 : cells = #[] := Array.eq_empty_of_size_eq_zero this
        rw [h3]; simp [hz]
      · simp only [hz, if_false, cells, Builtin.zeroCells, hzs]
    simp only [Instr.makeSlice, Sem.run_bind, run_underlying hu, Result.andThen_ok, asInt, asIntOf, Sem.run_pure, typeInfo, run_program, hi, hw1, hw2, hbig, decide_false, Bool.or_false, hn0, hn1, hn2, Bool.false_eq_true, if_false, run_askRoom, run_sizeOf' hsz]
    by_cases hz : (ec.eval env).toNat * ks.length = 0
    · rw [if_pos hz] at hcell2
      rw [if_pos hz]
      simp only [newRow, Sem.run_bind, run_newObj, Sem.run_pure, Result.andThen_ok, hcell2]
      rfl
    · rw [if_neg hz] at hcell2
      rw [if_neg hz]
      simp only [newRow, Sem.run_bind, run_newObj, Sem.run_pure, Result.andThen_ok, zeroValue, typeInfo, run_program, hi, hzv, hcell2]
      rfl
  · simp only [Rep]
    have hl0 : (IE.lit 0).eval env = 0 := by simp only [IE.eval]
    obtain ⟨hnm, _, _⟩ := Mem.new_spec (newRowB_spec hM)
    subst hnm
    refine ⟨(el.eval env).toNat, (ec.eval env).toNat, by omega, by omega, by omega, .inl ⟨w.heap.size, 0, ⟨_, rset_same _ _ _, rfl⟩, by simp [hl0], ⟨w.heap.size, ?_⟩⟩⟩
    rw [rset_same, hl0, hcs]; simp

theorem run_xbytes {M M' : Mem} {src dst e : TypeId} {r : IE} {nm : Nat} {s : ByteArray} (H : Holds ρ env M.get w) (hd : Free L ρ M.next) (hL : M'.next ≤ L) (hdt : P.underlying dst = some (.slice e)) (hst : P.underlying src = some .string) (he : P.underlying e = some (.int .u8))
    (hs : intsOf s = r.reval env) (hM : newRowB M e r (.rlen r 1) [.u8] = some (nm, M')) :
    ∃ v w' ρ', (convert src dst (.string s)).run P w = .ok v w' ∧ Rep ρ' env (.rsl (.own nm) (.lit 0) (.rlen r 1) 1) v ∧ Post env L ρ M.get M.next w ρ' M'.get M'.next w' := by
  let q : Question := .appendCap s.size 0 e
  let cap := q.cut (w.tape w.drawn q)
  have hcap : s.size ≤ cap := by simp [cap, q, Question.cut]
  let cells : Array Value := (s.data.map fun b => .int .u8 b.toNat) ++ Array.replicate (cap - s.size) (.int .u8 0)
  have hsz : s.data.size = s.size := rfl
  have hcs : cells.size = cap := by simp [cells, hsz]; omega
  have hn : (IE.rlen r 1).eval env = (s.size : Int) := by simp only [IE.eval, Nat.div_one, ← hs, intsOf_length]
  have hok : RowOk env r (.rlen r 1) [.u8] := ⟨by simp, by omega, by rw [hn, ← hs, intsOf_length]; simp⟩
  have hkind : ∀ j, kindAt [IntKind.u8] j = .u8 := fun j => by simp [kindAt, Nat.mod_one]
  have hrf : RowFor ρ env { elem := e, size := 0, zs := [], tr := .nil, opn := true, row := some (r, .rlen r 1, [.u8]) } cells cells.size (cells.size + 1) := by
    refine rowFor_row (.inr (Nat.le_refl _)) hok fun j hj => ?_
    rw [← hs] at hj ⊢
    rw [intsOf_length] at hj
    rw [vals_get, hkind, Array.getElem?_append_left (by simpa [hsz] using hj)]
    simp [intsOf]
    rfl
  have hpost := post_alloc (w0 := w.drew) H hd hL (fun _ _ h => h) rfl (newRowB_spec hM) (.inr rfl) hrf
  have hrun : (convert src dst (.string s)).run P w = (Conv.stringToBytes e s).run P w := by
    simp [convert, run_underlying hst, run_underlying hdt, run_underlying he]
  refine ⟨.slice (some ⟨w.heap.size, 0, none⟩) s.size cap, _, _, ?_, ?_, hpost⟩
  · rw [hrun]
    exact run_stringToBytes (P := P) w e s
  · simp only [Rep]
    have hl0 : (IE.lit 0).eval env = 0 := by simp only [IE.eval]
    obtain ⟨hnm, _, _⟩ := Mem.new_spec (newRowB_spec hM)
    subst hnm
    refine ⟨s.size, cap, hn.symm, hcap, by omega, .inl ⟨w.heap.size, 0, ⟨_, rset_same _ _ _, rfl⟩, by simp [hl0], ⟨w.heap.size, ?_⟩⟩⟩
    rw [rset_same, hl0, hcs]; simp

theorem run_xe {as : As} {M M' : Mem} {o : Oper} {bs : List BE} {s : SV} (hA : AsOk env as) (H : Holds ρ env M.get w) (hd : Free L ρ M.next) (hL : M'.next ≤ L) (hev : EvOk ρ env ev av) (h : xe P as M ev o = some (bs, s, M')) (hb : ∀ b ∈ bs, b.eval env = true) :
    ∃ nx v w' ρ', (execOp av o).run P w = .ok nx w' ∧ (nx = .value v ∨ nx = .skip ∧ v = undef) ∧ Rep ρ' env s v ∧ Post env L ρ M.get M.next w ρ' M'.get M'.next w' := by
  unfold xe at h
  split at h
  · -- store
    rename_i t a x ho
    split at h <;> try (cases h; done)
    rename_i nm idx esz fld sx ha hx
    split at h <;> try (cases h; done)
    rename_i B n hB hn
    split at h <;> try (cases h; done)
    rename_i r cnt ks hrow
    split at h <;> try (cases h; done)
    rename_i h1 h2 h3 h4 h5
    have h1 := Nat.eq_of_beq_eq_true h1
    have h3 := Nat.eq_of_beq_eq_true h3
    have h4 := ble_true h4
    split at h <;> try (cases h; done)
    rename_i r' hset
    split at h <;> try (cases h; done)
    rename_i M2 hM
    cases h
    obtain ⟨w', q1, q2⟩ := run_xstore (P := P) H hd (hev _ _ ha) (hev _ _ hx) hB hrow h1 h2 hn h3 h4 h5 hset (lessB_spec (hb _ (by simp))) hM
    refine ⟨.skip, undef, w', ρ, by simp [execOp, ho, q1], .inr ⟨rfl, rfl⟩, ?_, q2⟩
    simp only [Rep, undef]
    exact ⟨_, rfl, by simp [RepL]⟩
  · -- makeSlice
    rename_i t l c ho
    split at h <;> try (cases h; done)
    rename_i e sl sc hu hl hc
    split at h <;> try (cases h; done)
    rename_i ks k el k' ec hks hel hec
    split at h <;> try (cases h; done)
    rename_i rb hrb
    split at h <;> try (cases h; done)
    rename_i nm M2 hM
    cases h
    obtain ⟨z1, z2, i, zv, z3, z4, z5, z6⟩ := elemKs_spec hks
    obtain ⟨i', g1, g2, g3⟩ := roomB_spec hrb (hb rb (by simp))
    rw [z3] at g1; cases g1
    obtain ⟨v, w', ρ', q1, q2, q3⟩ := run_xmake (t := t) (k := k) (k' := k') H hd hL hu z1 z2 z3 z4 z5 (nonneg_spec (hb (nonneg el) (by simp))) (atmB_spec (hb (atmB el ec) (by simp))) g2 g3 hM
    rw [← toIE_spec hel (hev _ _ hl), ← toIE_spec hec (hev _ _ hc)] at q1
    exact ⟨.value v, v, w', ρ', by simp [execOp, ho, q1], .inl rfl, q2, q3⟩
  · -- convert
    rename_i src dst x ho
    split at h <;> try (cases h; done)
    rename_i r e hx hd' hs'
    split at h <;> try (cases h; done)
    rename_i he
    split at h <;> try (cases h; done)
    rename_i nm M2 hM
    cases h
    have hv := hev _ _ hx
    simp only [Rep] at hv
    obtain ⟨str, hv, hi⟩ := hv
    obtain ⟨v, w', ρ', q1, q2, q3⟩ := run_xbytes (P := P) H hd hL hd' hs' he hi hM
    exact ⟨.value v, v, w', ρ', by simp [execOp, ho, hv, q1], .inl rfl, q2, q3⟩
  · -- append
    rename_i c ho
    split at h <;> try (cases h; done)
    rename_i hc
    split at h <;> try (cases h; done)
    rename_i x y hl
    split at h <;> try (cases h; done)
    rename_i t yt ht hyt
    split at h <;> try (cases h; done)
    rename_i e d hu hd'
    split at h <;> try (cases h; done)
    rename_i ks hks
    split at h <;> try (cases h; done)
    rename_i bs0 ry n hsrc
    obtain ⟨z1, z2, i, zv, z3, z4, z5, z6⟩ := elemKs_spec hks
    have h1 := evL_spec hev hl
    simp only [RepL] at h1
    obtain ⟨u, us, e1, h2, v, vs, rfl, h3, rfl⟩ := h1
    have hargs : c.args.map av = #[u, v] := by apply Array.ext'; simpa using e1
    -- what the append does
    have key : (∀ b ∈ bs0, b.eval env = true) → 0 ≤ n.eval env ∧ (ry.reval env).length = (n.eval env).toNat * ks.length ∧
        AppRun P w (fun q => Builtin.append_ c.argTypes o.type #[q, v]) e i.bytes ks.length (n.eval env).toNat (vals ks (ry.reval env)).toArray := by
      intro hb0
      cases hdi : isIntD d with
      | false =>
        rw [hdi] at hsrc
        simp only at hsrc
        obtain ⟨k1, k2, k3, k4⟩ := srcRow_spec (P := P) H z1 hsrc hb0 h3
        refine ⟨k1, k2, ⟨fun base sl cap hfit => append_fits (w := w) o.type ht hyt hu hd' hdi z2 (k3 w) (k4 w rfl) hfit, fun base sl cap old hfit hmx hbt hold => ?_⟩⟩
        obtain ⟨nc, rest, c1, c2, c3⟩ := append_grows (w := w) o.type ht hyt hu hd' hdi z2 (k3 w) z3 z4 hfit hmx hbt hold k4
        exact ⟨nc, rest, c1, by rw [c2, z5]; simp, c3⟩
      | true =>
        rw [hdi] at hsrc
        simp only at hsrc
        split at hsrc <;> try (cases hsrc; done)
        rename_i k en hen
        split at hsrc <;> try (cases hsrc; done)
        rename_i rb hrb
        cases hsrc
        have hn0 := nonneg_spec (hb0 _ (List.mem_cons_self ..))
        obtain ⟨i', g1, g2, g3⟩ := roomB_spec hrb (hb0 rb (by simp))
        rw [z3] at g1; cases g1
        have hv := toIE_spec hen h3
        subst hv
        have hrow : (IE.rep n (.rcon (ks.map fun _ => 0))).reval env = repL (n.eval env) (ks.map fun _ => 0) := by simp only [IE.reval]
        have hzc : Builtin.zeroCells zv.cells (n.eval env).toNat = (vals ks (repL (n.eval env) (ks.map fun _ => 0))).toArray := by
          have := zeroCells_vals z1 (n.eval env).toNat
          rw [show ((n.eval env).toNat : Int) = n.eval env by omega] at this
          rw [z5]; exact this
        have hzs : zv.cells.size = ks.length := by rw [z5]; simp
        refine ⟨hn0, by rw [hrow, repL_len], ⟨fun base sl cap hfit => ?_, fun base sl cap old hfit hmx hbt hold => ?_⟩⟩
        · rw [hrow, ← hzc]
          exact append_fitsZ (w := w) o.type ht hyt hu hd' hdi z2 hn0 g2 z3 z4 hzs (g3 _ (by omega)) hfit
        · rw [hrow, ← hzc]
          obtain ⟨nc, rest, c1, c2, c3⟩ := append_growsZ (w := w) o.type ht hyt hu hd' hdi z2 hn0 g2 z3 z4 hzs (g3 _ (by omega)) hfit hmx hbt hold
          exact ⟨nc, rest, c1, by rw [c2, hzs], c3⟩
    have fin : ∀ {s' : SV} {M2 : Mem}, (∃ r w' ρ', (Builtin.append_ c.argTypes o.type #[u, v]).run P w = .ok r w' ∧ Rep ρ' env s' r ∧ Post env L ρ M.get M.next w ρ' M2.get M2.next w') →
        ∃ nx v w' ρ', (execOp av o).run P w = .ok nx w' ∧ (nx = .value v ∨ nx = .skip ∧ v = undef) ∧ Rep ρ' env s' v ∧ Post env L ρ M.get M.next w ρ' M2.get M2.next w' := by
      intro s' M2 ⟨r, w', ρ', r1, r2, r3⟩
      exact ⟨.value r, r, w', ρ', by simp only [execOp, ho, Go.resolve, hc, pure_bind, invoke, builtin, hargs, Sem.run_bind, r1, Result.andThen_ok, Sem.run_pure], .inl rfl, r2, r3⟩
    have hl0 : (IE.lit 0).eval env = 0 := by simp only [IE.eval]
    have nothing : ∀ a, n.eval env = 0 → (∀ b ∈ bs0, b.eval env = true) → (Builtin.append_ c.argTypes o.type #[.slice a 0 0, v]).run P w = .ok (.slice a 0 0) w := by
      intro a hz hb0
      obtain ⟨k1, k2, k3⟩ := key hb0
      have hnn : (n.eval env).toNat = 0 := by omega
      have hr := k3.fits a 0 0 (by omega)
      have hempty : (vals ks (ry.reval env)) = [] := by
        have : (ry.reval env).length = 0 := by rw [k2, hnn]; simp
        have := List.eq_nil_of_length_eq_zero this
        rw [this]; rfl
      rw [hr, hempty, hnn]
      cases a <;> simp [storeCells]
    split at h
    · -- nil
      simp only [Rep] at h2
      subst h2
      split at h
      · rename_i hck
        cases h
        have h5 := ckB_spec hA hck
        simp only [lessB, BE.eval, cmpI, hl0, decide_eq_false_iff_not] at h5
        obtain ⟨k1, k2, k3⟩ := key hb
        exact fin ⟨_, w, ρ, nothing none (by omega) hb, by simp only [Rep], Post.refl H hd⟩
      · rename_i hck
        split at h <;> try (cases h; done)
        rename_i rb nm M2 hrb hM
        cases h
        have h5 := lessB_spec (ckB_spec hA hck)
        rw [hl0] at h5
        obtain ⟨i', g1, g2, g3⟩ := roomB_spec hrb (hb rb (by simp))
        rw [z3] at g1; cases g1
        obtain ⟨k1, k2, k3⟩ := key fun b hb' => hb b (by simp [hb'])
        exact fin (app_none (a := none) H hd hL k3 z1 h5 k2 g2 (g3 _ (by omega)) hM)
      · rename_i hck
        cases h
        have h5 := lessB_spec (hb (lessB (.lit 0) (.lit 0)) (by simp))
        omega
    · simp only [Rep] at h2
      obtain ⟨a, rfl⟩ := h2
      split at h
      · rename_i hck
        cases h
        have h5 := ckB_spec hA hck
        simp only [lessB, BE.eval, cmpI, hl0, decide_eq_false_iff_not] at h5
        obtain ⟨k1, k2, k3⟩ := key hb
        exact fin ⟨_, w, ρ, nothing a (by omega) hb, by simp only [Rep]; exact ⟨a, rfl⟩, Post.refl H hd⟩
      · rename_i hck
        split at h <;> try (cases h; done)
        rename_i rb nm M2 hrb hM
        cases h
        have h5 := lessB_spec (ckB_spec hA hck)
        rw [hl0] at h5
        obtain ⟨i', g1, g2, g3⟩ := roomB_spec hrb (hb rb (by simp))
        rw [z3] at g1; cases g1
        obtain ⟨k1, k2, k3⟩ := key fun b hb' => hb b (by simp [hb'])
        exact fin (app_none (a := a) H hd hL k3 z1 h5 k2 g2 (g3 _ (by omega)) hM)
      · cases h
        have h5 := lessB_spec (hb (lessB (.lit 0) (.lit 0)) (by simp))
        omega
    · rename_i x' hx1 hx2
      split at h <;> try (cases h; done)
      rename_i M0 nm len hview
      obtain ⟨v1, v2, v3, v4, v5⟩ := viewRow_spec H z1 hview h2
      split at h <;> try (cases h; done)
      rename_i B hB
      split at h <;> try (cases h; done)
      rename_i r cnt ks' M1 hrow hel hM1
      have hel := Nat.eq_of_beq_eq_true hel
      split at h <;> try (cases h; done)
      rename_i rb nm' M2 hkk hrb hM
      have := ksEq_spec hkk; subst this
      cases h
      obtain ⟨i', g1, g2, g3⟩ := roomB_spec hrb (hb rb (by simp))
      rw [z3] at g1; cases g1
      obtain ⟨k1, k2, k3⟩ := key fun b hb' => hb b (by simp [hb'])
      exact fin (app_rsl v1 hd hL v2 v3 v5 k3 z1 k1 k2 g2 g3 v4 hB hrow hel (nonneg_spec (hb (nonneg len) (by simp))) (atmB_spec (hb (atmB len cnt) (by simp))) hM1 hM)
  · cases h

/-! ### All operations -/

/-- An operation that leaves memory as it is. -/
def sreadA (P : Program) (as : As) (M : Mem) (ev : Ev) (o : Oper) : Option SV :=
  match sread P M ev o with
  | some s => some s
  | none => match xr P M ev o with
    | some (bs, s) => match allCk as bs with
      | true => some s
      | false => none
    | none => none

/-- An operation that turns memory, and enters no function. -/
def seffA (P : Program) (as : As) (M : Mem) (ev : Ev) (o : Oper) : Option (SV × Mem) :=
  match seff P M ev o with
  | some r => some r
  | none => match xe P as M ev o with
    | some (bs, s, M') => match allCk as bs with
      | true => some (s, M')
      | false => none
    | none => none

/-- The test that an operation waits for. -/
def needB (P : Program) (as : As) (M : Mem) (ev : Ev) (o : Oper) : Option BE :=
  match o.op with
  | .pick c _ _ => match ev c with
    | some (.sbool b) => some (coreB b)
    | _ => none
  | .binOp _ _ x y _ => match ev x, ev y with
    | some (.sbool b), _ => some (coreB b)
    | _, some (.sbool b) => some (coreB b)
    | _, _ => match xr P M ev o with
      | some (bs, _) => match firstNo as bs with
        | some b => some (coreB b)
        | none => none
      | none => none
  | _ => match xr P M ev o with
    | some (bs, _) => match firstNo as bs with
      | some b => some (coreB b)
      | none => none
    | none => match xe P as M ev o with
      | some (bs, _, _) => match firstNo as bs with
        | some b => some (coreB b)
        | none => none
      | none => none

theorem run_sreadA {as : As} {M : Mem} {o : Oper} {s : SV} (hA : AsOk env as) (H : Holds ρ env M.get w) (hev : EvOk ρ env ev av) (h : sreadA P as M ev o = some s) :
    ∃ v, (execOp av o).run P w = .ok (.value v) w ∧ Rep ρ env s v := by
  unfold sreadA at h
  split at h
  · rename_i s' hs
    cases h
    exact run_sread H hev hs
  · split at h <;> try (cases h; done)
    rename_i bs s' hx
    split at h <;> try (cases h; done)
    rename_i hck
    cases h
    exact run_xr H hev hx (allCk_spec hA hck)

theorem run_seffA {as : As} {M M' : Mem} {o : Oper} {s : SV} (hA : AsOk env as) (H : Holds ρ env M.get w) (hd : Free L ρ M.next) (hL : M'.next ≤ L) (hev : EvOk ρ env ev av) (h : seffA P as M ev o = some (s, M')) :
    ∃ nx v w' ρ', (execOp av o).run P w = .ok nx w' ∧ (nx = .value v ∨ nx = .skip ∧ v = undef) ∧ Rep ρ' env s v ∧ Post env L ρ M.get M.next w ρ' M'.get M'.next w' := by
  unfold seffA at h
  split at h
  · rename_i r hr
    cases h
    exact run_seff H hd hL hev hr
  · split at h <;> try (cases h; done)
    rename_i bs s' M2 hx
    split at h <;> try (cases h; done)
    rename_i hck
    cases h
    exact run_xe hA H hd hL hev hx (allCk_spec hA hck)

theorem viewRow_next {M M0 : Mem} {e : TypeId} {ks : List IntKind} {x : SV} {nm : Nat} {len : IE} (h : viewRow M e ks x = some (M0, nm, len)) : M0.next = M.next := by
  unfold viewRow at h
  split at h
  · split at h <;> try (cases h; done)
    cases h; rfl
  · split at h <;> try (cases h; done)
    split at h <;> try (cases h; done)
    split at h <;> try (cases h; done)
    split at h <;> try (cases h; done)
    rename_i hM
    cases h
    exact (Mem.set_spec hM).1
  · split at h <;> try (cases h; done)
    split at h <;> try (cases h; done)
    split at h <;> try (cases h; done)
    split at h <;> try (cases h; done)
    rename_i hM
    cases h
    exact (Mem.set_spec hM).1
  · cases h

theorem xe_le {as : As} {M M' : Mem} {o : Oper} {bs : List BE} {s : SV} (h : xe P as M ev o = some (bs, s, M')) : M.next ≤ M'.next := by
  have hnew : ∀ {M0 : Mem} {e r cnt ks nm}, newRowB M0 e r cnt ks = some (nm, M') → M0.next ≤ M'.next := fun h => by
    obtain ⟨_, h2, _⟩ := Mem.new_spec (newRowB_spec h)
    omega
  unfold xe at h
  split at h
  · split at h <;> try (cases h; done)
    split at h <;> try (cases h; done)
    split at h <;> try (cases h; done)
    split at h <;> try (cases h; done)
    split at h <;> try (cases h; done)
    split at h <;> try (cases h; done)
    rename_i hM
    cases h
    rw [(Mem.set_spec hM).1]; exact Nat.le_refl _
  · split at h <;> try (cases h; done)
    split at h <;> try (cases h; done)
    split at h <;> try (cases h; done)
    split at h <;> try (cases h; done)
    rename_i hM
    cases h
    exact hnew hM
  · split at h <;> try (cases h; done)
    split at h <;> try (cases h; done)
    split at h <;> try (cases h; done)
    rename_i hM
    cases h
    exact hnew hM
  · split at h <;> try (cases h; done)
    split at h <;> try (cases h; done)
    split at h <;> try (cases h; done)
    split at h <;> try (cases h; done)
    split at h <;> try (cases h; done)
    split at h <;> try (cases h; done)
    split at h
    · split at h
      · cases h; exact Nat.le_refl _
      · split at h <;> try (cases h; done)
        rename_i hM
        cases h
        exact hnew hM
      · cases h; exact Nat.le_refl _
    · split at h
      · cases h; exact Nat.le_refl _
      · split at h <;> try (cases h; done)
        rename_i hM
        cases h
        exact hnew hM
      · cases h; exact Nat.le_refl _
    · split at h <;> try (cases h; done)
      rename_i hview
      split at h <;> try (cases h; done)
      split at h <;> try (cases h; done)
      rename_i hM1
      split at h <;> try (cases h; done)
      rename_i hM
      cases h
      have h1 := hnew hM
      rw [(Mem.set_spec hM1).1, viewRow_next hview] at h1
      exact h1
  · cases h

end
end Go.Sym
