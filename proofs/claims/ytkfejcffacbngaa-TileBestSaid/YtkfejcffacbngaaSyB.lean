/- Memory under a symbolic run: new blocks, loads, stores. -/
import Derived.Test.YtkfejcffacbngaaSyA
namespace Go.Sym
open Go Go.RowKit
set_option linter.unusedVariables false

def Mem.new (M : Mem) (B : Blk) : Option (Nat × Mem) :=
  match Tr.put fuelT M.tr M.next (some B) with
  | some t => some (M.next, ⟨Nat.succ M.next, t⟩)
  | none => none

def Mem.set (M : Mem) (nm : Nat) (B : Option Blk) : Option Mem :=
  match Tr.put fuelT M.tr nm B with
  | some t => some ⟨M.next, t⟩
  | none => none

theorem Mem.new_spec {M M' : Mem} {B : Blk} {nm : Nat} (h : M.new B = some (nm, M')) : nm = M.next ∧ M'.next = M.next + 1 ∧ ∀ m, M'.get m = if m = M.next then some B else M.get m := by
  unfold Mem.new at h
  cases hp : Tr.put fuelT M.tr M.next (some B) with
  | none => rw [hp] at h; cases h
  | some t =>
    rw [hp] at h
    cases h
    exact ⟨rfl, rfl, fun m => Tr.get_put _ _ _ _ _ hp m⟩

theorem Mem.set_spec {M M' : Mem} {B : Option Blk} {nm : Nat} (h : M.set nm B = some M') : M'.next = M.next ∧ ∀ m, M'.get m = if m = nm then B else M.get m := by
  unfold Mem.set at h
  cases hp : Tr.put fuelT M.tr nm B with
  | none => rw [hp] at h; cases h
  | some t =>
    rw [hp] at h
    cases h
    exact ⟨rfl, fun m => Tr.get_put _ _ _ _ _ hp m⟩

def Blk.put (B : Blk) (i : Nat) (s : SV) : Option Blk :=
  match Tr.put fuelT B.tr i (some s) with
  | some t => some { B with tr := t }
  | none => none

theorem Blk.put_spec {B B' : Blk} {i : Nat} {s : SV} (h : B.put i s = some B') :
    B'.elem = B.elem ∧ B'.size = B.size ∧ B'.opn = B.opn ∧ (∀ j, B'.at j = if j = i then some s else B.at j) ∧ B'.row = B.row := by
  unfold Blk.put at h
  cases hp : Tr.put fuelT B.tr i (some s) with
  | none => rw [hp] at h; cases h
  | some t =>
    rw [hp] at h
    cases h
    refine ⟨rfl, rfl, rfl, fun j => ?_, rfl⟩
    simp only [Blk.at]
    rw [Tr.get_put _ _ _ _ _ hp j]
    by_cases hj : j = i
    · simp [hj]
    · simp [hj]

/-- w' is w but for what block b holds. -/
structure SameBut (w w' : World) (b : Nat) : Prop where
  size : w'.heap.size = w.heap.size
  other : ∀ k, k ≠ b → w'.heap[k]? = w.heap[k]?
  os : w'.os = w.os
  tape : w'.tape = w.tape
  output : w'.output = w.output

section
variable {ρ : Rho} {env : Env} {w : World}

theorem post_new {L : Nat} {M M' : Mem} {B : Blk} {nm : Nat} (H : Holds ρ env M.get w) (hd : Free L ρ M.next) (hL : M.next < L) (hM : M.new B = some (nm, M')) (cells : Array Value) (lo hi : Nat)
    (hle : B.size ≤ cells.size) (hsh : B.opn = false → B.size = cells.size) (hfr : lo = hi ∨ cells.size ≤ lo)
    (hrow : ∀ i, i < B.size → ∃ s v, B.at i = some s ∧ s.one = true ∧ cells[i]? = some v ∧ Rep ρ env s v)
    (hrws : ∀ r cnt ks, B.row = some (r, cnt, ks) → (B.size = 0 ∧ RowOk env r cnt ks) ∧ ∀ j x, (r.reval env)[j]? = some x → cells[j]? = some (Value.int (kindAt ks j) x)) :
    ∃ ρ' : Rho, ρ' nm = some (w.heap.size, cells.size) ∧ Post env L ρ M.get M.next w ρ' M'.get M'.next (w.alloc (.cells cells B.elem (lo, hi))) := by
  obtain ⟨rfl, hn, hg⟩ := Mem.new_spec hM
  let ρ' : Rho := fun m => if m = M.next then some (w.heap.size, cells.size) else ρ m
  have hsub : Sub ρ ρ' := by
    intro m x hx
    by_cases h : m = M.next
    · subst h; rw [hd _ (Nat.le_refl _) hL] at hx; cases hx
    · simp [ρ', h, hx]
  have hnew : (w.alloc (.cells cells B.elem (lo, hi))).heap[w.heap.size]? = some (.cells cells B.elem (lo, hi)) := heap_alloc_new _ _
  have hold : ∀ k, k < w.heap.size → (w.alloc (.cells cells B.elem (lo, hi))).heap[k]? = w.heap[k]? := fun k hk => heap_alloc_old _ _ _ hk
  refine ⟨ρ', by simp [ρ'], ?_, ⟨?_, ?_, ?ro⟩, by omega, ?_, fun k hk _ => hold k hk, ?_, by simp, rfl, rfl, rfl⟩
  case ro =>
    intro i R hR
    obtain ⟨k1, k2, k3⟩ := H.ro i R hR
    refine ⟨by simp; omega, k2.of_block (hold _ k1), fun m C n hC hρ => ?_⟩
    rw [hg m] at hC
    by_cases h : m = M.next
    · simp only [ρ', h, if_true, Option.some.injEq, Prod.mk.injEq] at hρ
      omega
    · simp only [h, if_false] at hC
      simp only [ρ', h, if_false] at hρ
      exact k3 m C n hC hρ
  · intro m hm
    have : ¬ m = M.next := by omega
    simp [ρ', this]
  · intro m C hC
    rw [hg m] at hC
    by_cases h : m = M.next
    · simp only [h, if_true, Option.some.injEq] at hC
      subst hC
      refine ⟨w.heap.size, cells.size, by simp [ρ', h], ⟨⟨cells, lo, hi, hnew, rfl, hfr, fun i hi => ?_⟩, hle, hsh, fun r cnt ks hr => ⟨(hrws r cnt ks hr).1, fun j x hx => ?_⟩⟩⟩
      rotate_left
      · have := (hrws r cnt ks hr).2 j x hx
        simp only [World.cell?, hnew, Nat.zero_add]; simpa using this
      obtain ⟨s, v, a, b, c, d⟩ := hrow i hi
      exact ⟨s, v, a, b, c, Rep.mono hsub _ _ d⟩
    · simp only [h, if_false] at hC
      obtain ⟨b, n, h1, h2⟩ := H.blk m C hC
      exact ⟨b, n, hsub _ _ h1, h2.of_block hsub (hold b (H.lt hC h1))⟩
  · intro m m' C C' b n n' h1 h2 h3 h4
    rw [hg m] at h1
    rw [hg m'] at h2
    by_cases h : m = M.next <;> by_cases h' : m' = M.next
    · rw [h, h']
    · simp only [h', if_false] at h2
      simp only [ρ', h, if_true, Option.some.injEq, Prod.mk.injEq] at h3
      simp only [ρ', h', if_false] at h4
      have := H.lt h2 h4
      omega
    · simp only [h, if_false] at h1
      simp only [ρ', h', if_true, Option.some.injEq, Prod.mk.injEq] at h4
      simp only [ρ', h, if_false] at h3
      have := H.lt h1 h3
      omega
    · simp only [h, if_false] at h1
      simp only [h', if_false] at h2
      simp only [ρ', h, if_false] at h3
      simp only [ρ', h', if_false] at h4
      exact H.inj _ _ _ _ _ _ _ h1 h2 h3 h4
  · intro m hm hm'
    have : ¬ m = M.next := by omega
    simp only [ρ', this, if_false]
    exact hd m (by omega) hm'
  · intro m C b n h1 h2
    rw [hg m] at h1
    by_cases h : m = M.next
    · simp only [ρ', h, if_true, Option.some.injEq, Prod.mk.injEq] at h2
      exact .inl (by omega)
    · simp only [h, if_false] at h1
      simp only [ρ', h, if_false] at h2
      exact .inr ⟨m, C, n, h1, h2⟩

/-- The block named nm turns to B' (of the same size). -/
theorem post_upd {L : Nat} {g g' : Get} {next : Nat} {w' : World} {B B' : Blk} {nm b n : Nat} (H : Holds ρ env g w) (hd : Free L ρ next) (hB : g nm = some B) (hr : ρ nm = some (b, n))
    (hg : ∀ m, g' m = if m = nm then some B' else g m) (hs : SameBut w w' b) (hC : Cellar ρ env B' b n w') : Post env L ρ g next w ρ g' next w' := by
  have hapart : ∀ m C k n', g m = some C → m ≠ nm → ρ m = some (k, n') → k ≠ b := by
    intro m C k n' h1 h2 h3 h4
    subst h4
    exact h2 (H.inj m nm C B k n' n h1 hB h3 hr)
  have back : ∀ m C, g' m = some C → ∃ C', g m = some C' := by
    intro m C h1
    rw [hg m] at h1
    by_cases h : m = nm
    · subst h; exact ⟨B, hB⟩
    · simp only [h, if_false] at h1; exact ⟨C, h1⟩
  refine ⟨fun _ _ => rfl, ⟨?_, ?_, ?ro⟩, Nat.le_refl _, hd, ?_, ?_, by rw [hs.size]; exact Nat.le_refl _, hs.os, hs.tape, hs.output⟩
  case ro =>
    intro i R hR
    obtain ⟨k1, k2, k3⟩ := H.ro i R hR
    refine ⟨by rw [hs.size]; exact k1, k2.of_block (hs.other _ fun e => k3 nm B n hB (by rw [e]; exact hr)), fun m C n' hC hρ => ?_⟩
    obtain ⟨C', hC'⟩ := back m C hC
    exact k3 m C' n' hC' hρ
  · intro m C h1
    rw [hg m] at h1
    by_cases h : m = nm
    · simp only [h, if_true, Option.some.injEq] at h1
      subst h1; subst h
      exact ⟨b, n, hr, hC⟩
    · simp only [h, if_false] at h1
      obtain ⟨k, n', h3, h4⟩ := H.blk m C h1
      exact ⟨k, n', h3, h4.of_block (fun _ _ h => h) (hs.other k (hapart m C k n' h1 h h3))⟩
  · intro m m' C C' k n1 n2 h1 h2 h3 h4
    have back : ∀ m C, g' m = some C → ∃ C', g m = some C' := by
      intro m C h1
      rw [hg m] at h1
      by_cases h : m = nm
      · subst h; exact ⟨B, hB⟩
      · simp only [h, if_false] at h1; exact ⟨C, h1⟩
    obtain ⟨D, hD⟩ := back m C h1
    obtain ⟨D', hD'⟩ := back m' C' h2
    exact H.inj m m' D D' k n1 n2 hD hD' h3 h4
  · intro k hk hno
    refine hs.other k fun e => ?_
    subst e
    exact hno nm B n hB hr
  · intro m C k n' h1 h2
    rw [hg m] at h1
    by_cases h : m = nm
    · subst h; exact .inr ⟨m, B, n', hB, h2⟩
    · simp only [h, if_false] at h1; exact .inr ⟨m, C, n', h1, h2⟩

theorem sameBut_setCell (w : World) (a : Addr) (v : Value) : SameBut w (w.setCell a v) a.block :=
  ⟨by simp, fun k hk => heap_setCell_other _ _ _ _ hk, rfl, rfl, rfl⟩

theorem heap_setCell_at (w : World) (b i : Nat) (cells : Array Value) (t : TypeId) (fr : Nat × Nat) (v : Value) (h : w.heap[b]? = some (.cells cells t fr)) :
    (w.setCell ⟨b, i, none⟩ v).heap[b]? = some (.cells (cells.setIfInBounds i v) t fr) := by
  simp [World.setCell, Array.getElem?_modify, h]

theorem cell_own {B : Blk} {b n i : Nat} {s : SV} (hC : Cellar ρ env B b n w) (hi : i < B.size) (hs : B.at i = some s) :
    ∃ v, w.cell? ⟨b, i, none⟩ = some v ∧ Rep ρ env s v ∧ w.frozen? ⟨b, i, none⟩ = false := by
  obtain ⟨⟨cells, lo, hi', h1, h2, h3, h4⟩, hle, hsh, hrw⟩ := hC
  obtain ⟨s', v, a, b', c, d⟩ := h4 i hi
  rw [hs] at a
  cases a
  refine ⟨v, by simp [World.cell?, h1, c], d, ?_⟩
  have : ¬ (lo ≤ i ∧ i < hi') := by omega
  simp only [World.frozen?, h1]
  simpa using this

theorem cellar_set {B B' : Blk} {b n i : Nat} {s : SV} {v : Value} (hC : Cellar ρ env B b n w) (hi : i < B.size) (hp : B.put i s = some B') (hone : s.one = true) (hv : Rep ρ env s v) :
    Cellar ρ env B' b n (w.setCell ⟨b, i, none⟩ v) := by
  obtain ⟨h1, h2, h3, h4, h5⟩ := Blk.put_spec hp
  obtain ⟨⟨cells, lo, hi', k1, k2, k3, k4⟩, hle, hsh, hrw⟩ := hC
  refine ⟨⟨cells.setIfInBounds i v, lo, hi', by rw [h1]; exact heap_setCell_at _ _ _ _ _ _ _ k1, by simpa using k2, k3, fun j hj => ?_⟩, by rw [h2]; exact hle, by rw [h2, h3]; exact hsh, fun r cnt ks hr => by rw [h5] at hr; have := (hrw r cnt ks hr).1.1; omega⟩
  rw [h2] at hj
  rw [h4 j]
  by_cases hji : j = i
  · subst hji
    refine ⟨s, v, by simp, hone, ?_, hv⟩
    have : j < cells.size := by omega
    simp [this]
  · obtain ⟨s', v', a, b', c, d⟩ := k4 j hj
    refine ⟨s', v', by simp [hji, a], b', ?_, d⟩
    rw [Array.getElem?_setIfInBounds_ne (Ne.symm hji)]
    exact c

/-! ### Rows of cells -/

def Blk.cellsFrom (B : Blk) : Nat → Nat → Option (List SV)
  | _, 0 => some []
  | off, n + 1 =>
    match Nat.ble (Nat.succ off) B.size with
    | true => match B.at off with
      | some s => match Blk.cellsFrom B (Nat.succ off) n with
        | some l => some (s :: l)
        | none => none
      | none => none
    | false => none

theorem ble_true {a b : Nat} (h : Nat.ble a b = true) : a ≤ b := Nat.le_of_ble_eq_true h

theorem Blk.cellsFrom_spec {B : Blk} : ∀ (n off : Nat) (l : List SV), B.cellsFrom off n = some l → l.length = n ∧ (0 < n → off + n ≤ B.size) ∧ ∀ j s, l[j]? = some s → B.at (off + j) = some s
  | 0, off, l, h => by simp only [Blk.cellsFrom, Option.some.injEq] at h; subst h; simp
  | n + 1, off, l, h => by
    simp only [Blk.cellsFrom] at h
    cases hb : Nat.ble (Nat.succ off) B.size with
    | false => simp [hb] at h
    | true =>
      simp only [hb] at h
      have hlt := ble_true hb
      cases hs : B.at off with
      | none => simp [hs] at h
      | some s =>
        simp only [hs] at h
        cases hl : B.cellsFrom (Nat.succ off) n with
        | none => simp [hl] at h
        | some l' =>
          simp only [hl, Option.some.injEq] at h
          subst h
          obtain ⟨h1, h2, h3⟩ := Blk.cellsFrom_spec n (Nat.succ off) l' hl
          refine ⟨by simp [h1], fun _ => ?_, fun j s' hj => ?_⟩
          · rcases Nat.eq_zero_or_pos n with h0 | h0
            · subst h0; omega
            · have := h2 h0; omega
          · cases j with
            | zero => simp at hj; subst hj; exact hs
            | succ j => simp at hj; have := h3 j s' hj; rwa [show off + (j + 1) = Nat.succ off + j by omega]

theorem addr_add (b off j : Nat) : (⟨b, off, none⟩ : Addr).add j = ⟨b, off + j, none⟩ := by
  unfold Addr.add; split
  · simp_all
  · rfl

theorem run_load_own {P : Program} {B : Blk} {b n i : Nat} {s : SV} (hC : Cellar ρ env B b n w) (hi : i < B.size) (hs : B.at i = some s) :
    ∃ v, (load ⟨b, i, none⟩).run P w = .ok v w ∧ Rep ρ env s v := by
  obtain ⟨v, h1, h2, _⟩ := cell_own hC hi hs
  exact ⟨v, by simp [h1], h2⟩

theorem run_loadCells_own {P : Program} {B : Blk} {b n off k : Nat} {l : List SV} (hC : Cellar ρ env B b n w) (h : B.cellsFrom off k = some l) :
    ∃ vs : Array Value, (loadCells ⟨b, off, none⟩ k).run P w = .ok vs w ∧ RepL ρ env l vs.toList := by
  obtain ⟨h1, h2, h3⟩ := Blk.cellsFrom_spec k off l h
  have hall : ∀ j, j < k → ∃ s v, l[j]? = some s ∧ w.cell? ⟨b, off + j, none⟩ = some v ∧ Rep ρ env s v := by
    intro j hj
    have hjl : j < l.length := by omega
    have hs : l[j]? = some l[j] := by simp [hjl]
    obtain ⟨v, a, c, _⟩ := cell_own hC (i := off + j) (by have := h2 (by omega); omega) (h3 j _ hs)
    exact ⟨_, v, hs, a, c⟩
  let f : Nat → Value := fun j => (w.cell? ⟨b, off + j, none⟩).getD undef
  refine ⟨((List.range k).map f).toArray, run_loadCells (P := P) w ⟨b, off, none⟩ k f (fun j hj => ?_), RepL.of_get (by simp [h1]) fun j s hs => ?_⟩
  · obtain ⟨s, v, _, a, _⟩ := hall j hj
    rw [addr_add, a]
    simp [f, a]
  · have hj : j < k := by have := (List.getElem?_eq_some_iff.1 hs).1; omega
    obtain ⟨s', v, a, b', c⟩ := hall j hj
    rw [hs] at a
    cases a
    refine ⟨v, ?_, c⟩
    simp [hj, f, b']

def Blk.puts (B : Blk) : Nat → List SV → Option Blk
  | _, [] => some B
  | off, s :: l =>
    match Nat.ble (Nat.succ off) B.size, s.one with
    | true, true => match B.put off s with
      | some B' => Blk.puts B' (Nat.succ off) l
      | none => none
    | _, _ => none

theorem Blk.puts_spec : ∀ (l : List SV) (B B' : Blk) (off : Nat), B.puts off l = some B' → B'.elem = B.elem ∧ B'.size = B.size ∧ B'.opn = B.opn ∧ B'.row = B.row
  | [], B, B', off, h => by simp only [Blk.puts, Option.some.injEq] at h; subst h; exact ⟨rfl, rfl, rfl, rfl⟩
  | s :: l, B, B', off, h => by
    simp only [Blk.puts] at h
    split at h
    · split at h
      · rename_i B1 hp
        obtain ⟨a, b, c, _, d⟩ := Blk.put_spec hp
        obtain ⟨a', b', c', d'⟩ := Blk.puts_spec l B1 B' _ h
        exact ⟨a'.trans a, b'.trans b, c'.trans c, d'.trans d⟩
      · cases h
    · cases h

theorem run_storeCells_own {P : Program} {b n : Nat} : ∀ (l : List SV) (vs : List Value) (B B' : Blk) (off i : Nat) (w : World), Cellar ρ env B b n w → B.puts (off + i) l = some B' → RepL ρ env l vs →
    ∃ w', (storeCells ⟨b, off, none⟩ vs i).run P w = .ok () w' ∧ Cellar ρ env B' b n w' ∧ SameBut w w' b
  | [], vs, B, B', off, i, w, hC, h, hr => by
    simp only [RepL] at hr; subst hr
    simp only [Blk.puts, Option.some.injEq] at h; subst h
    exact ⟨w, by simp [storeCells], hC, ⟨rfl, fun _ _ => rfl, rfl, rfl, rfl⟩⟩
  | s :: l, vs, B, B', off, i, w, hC, h, hr => by
    simp only [RepL] at hr
    obtain ⟨v, vs', rfl, h2, h3⟩ := hr
    simp only [Blk.puts] at h
    split at h
    · rename_i hb ho
      have hlt := ble_true hb
      split at h
      · rename_i B1 hp
        have hat : ∃ s0, B.at (off + i) = some s0 := by
          obtain ⟨⟨cells, lo, hi, k1, k2, k3, k4⟩, hle, hsh, _⟩ := hC
          obtain ⟨s', v', a, _⟩ := k4 (off + i) (by omega)
          exact ⟨s', a⟩
        obtain ⟨s0, hs0⟩ := hat
        obtain ⟨v0, c1, c2, c3⟩ := cell_own hC (by omega) hs0
        have hC1 := cellar_set hC (by omega) hp ho h2
        obtain ⟨w', r1, r2, r3⟩ := run_storeCells_own l vs' B1 B' off (i + 1) _ hC1 (by rw [← Nat.add_assoc]; exact h) h3
        refine ⟨w', ?_, r2, ?_⟩
        · simp only [storeCells, Sem.run_bind, addr_add]
          rw [run_store P w _ v .plain (h2.one ho), c1]
          simp only [c3, Bool.false_eq_true, if_false, Result.andThen_ok]
          exact r1
        · have hs1 := sameBut_setCell w ⟨b, off + i, none⟩ v
          exact ⟨r3.size.trans hs1.size, fun k hk => (r3.other k hk).trans (hs1.other k hk), r3.os.trans hs1.os, r3.tape.trans hs1.tape, r3.output.trans hs1.output⟩
      · cases h
    · cases h

end
end Go.Sym
