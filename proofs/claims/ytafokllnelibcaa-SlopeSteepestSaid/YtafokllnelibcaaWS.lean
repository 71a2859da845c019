/- Words on rows whose elements are groups of cells (slices of structs). -/
import Derived.Test.YtafokllnelibcaaW
import Derived.Handy
import Derived.Laws.NewDeep
import Derived.Laws.ResultCell
namespace Go.Proofs.Ytafokllnelibcaa
open Go.RowKit

/-- out = append(out, x), out a row of the call's own, an element of some cells: the new element lies in the newest block. -/
theorem wp_append_grp {P : Program} {o : Oper} {a : Act} {K : Act → World → Prop} {Q : Exit → Act → World → Prop} (s x : Operand) (t : TypeId)
    (ho : o.op = .call { callee := .builtin .append, args := #[s, x], argTypes := #[t, t] })
    (e : TypeId) (z : Value) (size bytes : Nat) (ht : P.underlying t = some (.slice e)) (hinfo : (P.info? e).map (fun i => (i.zero, i.size, i.bytes)) = some (some z, size, bytes)) (hzs : z.cells.size = size) (hsz : 0 < size) (hby : bytes ≤ 64)
    {base : Nat} {v : Value} {n : Nat} {xs : List Value} {wr : World} (hown : wr.ownsRow base e size v n xs) (hs : a.eval s = v) {ys : List Value} (hys : ys.length = size)
    (hx : a.eval x = .slice (some ⟨wr.heap.size, 0, none⟩) 1 1) (hy : ∀ u ∈ ys, u.oneCell' = true) (hn : n ≤ 1000000000000) (hbase : base ≤ wr.heap.size)
    (h : ∀ v' w', w'.ownsRow base e size v' (n + 1) (xs ++ ys) → Below base wr w' → K (a.put o.dst v') w') : o.wp P a (wr.alloc (.cells ys.toArray e)) K Q := by
  obtain ⟨i0, hi, hz0, hz1, hz2⟩ := info_parts hinfo
  refine wp_append_own (wr.alloc (.cells ys.toArray e)) s x t ho base e i0 z size bytes ht hi hz0 hz1 hz2 hzs hsz v n xs hs (hown.alloc _) ⟨wr.heap.size, 0, none⟩ 1 1 ys hx (by omega) ?_ hy ?_ ?_ ?_ ?_
  · intro j u hu
    have e : (⟨wr.heap.size, 0, none⟩ : Addr).add j = ⟨wr.heap.size, j, none⟩ := by unfold Addr.add; split <;> simp_all
    rw [e, World.cell?_alloc_at _ _ _ _ rfl]
    simpa using hu
  · simp only [maxLen]; omega
  · have : (n + 1) * bytes ≤ (n + 1) * 64 := Nat.mul_le_mul_left _ hby
    omega
  · simp; omega
  · intro v' w' h2 h3 _
    exact h v' w' h2 (((Below.refl base wr).alloc hbase _).grown h3 (by simp; omega) (fun k hk => (hown.lt k hk).1))

theorem wpList_append_grp {P : Program} {ops : Array Oper} {rest : List Oper} {o : Oper} {a : Act} {Q : Exit → Act → World → Prop} (hgd : o.guard = none) (s x : Operand) (t : TypeId)
    (ho : o.op = .call { callee := .builtin .append, args := #[s, x], argTypes := #[t, t] })
    (e : TypeId) (z : Value) (size bytes : Nat) (ht : P.underlying t = some (.slice e)) (hinfo : (P.info? e).map (fun i => (i.zero, i.size, i.bytes)) = some (some z, size, bytes)) (hzs : z.cells.size = size) (hsz : 0 < size) (hby : bytes ≤ 64)
    {base : Nat} {v : Value} {n : Nat} {xs : List Value} {wr : World} (hown : wr.ownsRow base e size v n xs) (hs : a.eval s = v) {ys : List Value} (hys : ys.length = size)
    (hx : a.eval x = .slice (some ⟨wr.heap.size, 0, none⟩) 1 1) (hy : ∀ u ∈ ys, u.oneCell' = true) (hn : n ≤ 1000000000000) (hbase : base ≤ wr.heap.size)
    (h : ∀ v' w', w'.ownsRow base e size v' (n + 1) (xs ++ ys) → Below base wr w' → wpList P ops Q rest (a.put o.dst v') w') : wpList P ops Q (o :: rest) a (wr.alloc (.cells ys.toArray e)) :=
  wpList_plain hgd fun _ hK => wp_append_grp s x t ho e z size bytes ht hinfo hzs hsz hby hown hs hys hx hy hn hbase fun v' w' h2 h3 => hK _ _ (h v' w' h2 h3)

theorem step_append_grp {P : Program} {ops : Array Oper} {o : Oper} {a : Act} {K : Act → World → Prop} {Q : Exit → Act → World → Prop} {E : Prop} (hgd : o.guard = none) (s x : Operand) (t : TypeId)
    (ho : o.op = .call { callee := .builtin .append, args := #[s, x], argTypes := #[t, t] })
    (e : TypeId) (z : Value) (size bytes : Nat) (ht : P.underlying t = some (.slice e)) (hinfo : (P.info? e).map (fun i => (i.zero, i.size, i.bytes)) = some (some z, size, bytes)) (hzs : z.cells.size = size) (hsz : 0 < size) (hby : bytes ≤ 64)
    {base : Nat} {v : Value} {n : Nat} {xs : List Value} {wr : World} (hown : wr.ownsRow base e size v n xs) (hs : a.eval s = v) {ys : List Value} (hys : ys.length = size)
    (hx : a.eval x = .slice (some ⟨wr.heap.size, 0, none⟩) 1 1) (hy : ∀ u ∈ ys, u.oneCell' = true) (hn : n ≤ 1000000000000) (hbase : base ≤ wr.heap.size)
    (h : ∀ v' w', w'.ownsRow base e size v' (n + 1) (xs ++ ys) → Below base wr w' → K (a.put o.dst v') w') :
    if Region.wanted o (yielded ops a.tmps) = true then Oper.wp P o a (wr.alloc (.cells ys.toArray e)) K Q else E := by
  have hw : Region.wanted o (yielded ops a.tmps) = true := by simp [Region.wanted, hgd]
  rw [if_pos hw]
  exact wp_append_grp s x t ho e z size bytes ht hinfo hzs hsz hby hown hs hys hx hy hn hbase h

theorem bal {w w1 : World} {o : Obj} (h : Below (w.alloc o).heap.size (w.alloc o) w1) : Below w.heap.size w w1 := bchain ((Below.refl _ _).alloc (Nat.le_refl _) _) h
theorem below_at {w : World} {o : Obj} : Below w.heap.size w (w.alloc o) := (Below.refl _ _).alloc (Nat.le_refl _) _
theorem below_put {w0 w : World} {o : Obj} (h : Below w0.heap.size w0 w) : Below w0.heap.size w0 (w.alloc o) := bchain h below_at

theorem kc {w w' : World} {p : Addr} {v : Value} (hb : Below w.heap.size w w') (h : w.cell? p = some v) : w'.cell? p = some v := by
  rw [hb.cell (World.block_lt_of_cell? w _ h)]
  exact h
theorem w64 (x : Int) (h0 : -9223372036854775808 ≤ x) (h1 : x ≤ 9223372036854775807) : IntKind.i64.wrap x = x := by
  rw [IntKind.wrap_i64]; omega
/-- A block holds these values, from its first cell on, and none is frozen. -/
def At (w : World) (g : Nat) (vs : List Value) : Prop := g < w.heap.size ∧ (∀ j u, vs[j]? = some u → w.cell? ⟨g, j, none⟩ = some u) ∧ ∀ j, w.frozen? ⟨g, j, none⟩ = false
section
variable {w w' : World} {g : Nat} {vs : List Value}
theorem At.below (h : At w g vs) (hb : Below w.heap.size w w') : At w' g vs :=
  ⟨Nat.lt_of_lt_of_le h.1 hb.size, fun j u hu => (hb.cell (p := ⟨g, j, none⟩) h.1).trans (h.2.1 j u hu), fun j => (hb.frozen (p := ⟨g, j, none⟩) h.1).trans (h.2.2 j)⟩
theorem At.into {B : Nat} (h : At w g vs) (hg : g < B) (hb : Below B w w') : At w' g vs :=
  ⟨Nat.lt_of_lt_of_le h.1 hb.size, fun j u hu => (hb.cell (p := ⟨g, j, none⟩) hg).trans (h.2.1 j u hu), fun j => (hb.frozen (p := ⟨g, j, none⟩) hg).trans (h.2.2 j)⟩
theorem At.drew (h : At w g vs) : At w.drew g vs := h
theorem At.drewN (h : At w g vs) (n : Nat) : At (w.drewN n) g vs := h
theorem At.alloc (h : At w g vs) (o : Obj) : At (w.alloc o) g vs := h.below below_at
theorem At.new {t : TypeId} : At (w.alloc (.cells vs.toArray t)) w.heap.size vs := by
  refine ⟨by simp, fun j u hu => ?_, fun j => World.frozen?_alloc_at _ _ _ _ rfl⟩
  rw [World.cell?_alloc_at _ _ _ _ rfl]
  simpa using hu
theorem At.new_ {t : TypeId} (hg : w.heap.size = g) : At (w.alloc (.cells vs.toArray t)) g vs := hg ▸ At.new
theorem At.set (h : At w g vs) (k : Nat) (v : Value) (hk : k < vs.length) : At (w.setCell ⟨g, k, none⟩ v) g (vs.set k v) := by
  refine ⟨by simpa using h.1, fun j u hu => ?_, fun j => by rw [World.frozen?_setCell]; exact h.2.2 j⟩
  by_cases hj : k = j
  · subst hj
    rw [List.getElem?_set_self hk] at hu
    cases hu
    exact World.cell?_setCell_same _ _ _ (h.2.1 k _ (List.getElem?_eq_getElem hk))
  · rw [List.getElem?_set_ne hj] at hu
    rw [World.cell?_setCell_other _ _ _ _ (by intro e; injection e with _ e2; exact hj e2)]
    exact h.2.1 j u hu
theorem At.far (h : At w g vs) {p : Addr} (hp : g ≠ p.block) (v : Value) : At (w.setCell p v) g vs := by
  refine ⟨by simpa using h.1, fun j u hu => ?_, fun j => by rw [World.frozen?_setCell]; exact h.2.2 j⟩
  rw [World.cell?_setCell_other _ _ _ _ (by intro e; subst e; exact hp rfl)]
  exact h.2.1 j u hu
theorem At.two {a b : Value} (h : At w g [a, b]) : w.cell? ⟨g, 0, none⟩ = some a ∧ w.cell? ⟨g, 1, none⟩ = some b := ⟨h.2.1 0 _ rfl, h.2.1 1 _ rfl⟩
theorem At.four {a b c d : Value} (h : At w g [a, b, c, d]) : w.cell? ⟨g, 0, none⟩ = some a ∧ w.cell? ⟨g, 1, none⟩ = some b ∧ w.cell? ⟨g, 2, none⟩ = some c ∧ w.cell? ⟨g, 3, none⟩ = some d :=
  ⟨h.2.1 0 _ rfl, h.2.1 1 _ rfl, h.2.1 2 _ rfl, h.2.1 3 _ rfl⟩
theorem At.fr2 (h : At w g vs) : w.frozen? ⟨g, 0, none⟩ = false ∧ w.frozen? ⟨g, 1, none⟩ = false ∧ g < w.heap.size := ⟨h.2.2 0, h.2.2 1, h.1⟩
theorem At.fr4 (h : At w g vs) : w.frozen? ⟨g, 0, none⟩ = false ∧ w.frozen? ⟨g, 1, none⟩ = false ∧ w.frozen? ⟨g, 2, none⟩ = false ∧ w.frozen? ⟨g, 3, none⟩ = false ∧ g < w.heap.size := ⟨h.2.2 0, h.2.2 1, h.2.2 2, h.2.2 3, h.1⟩
end

theorem own_form_n {w : World} {base : Nat} {e : TypeId} {size : Nat} {v : Value} {n : Nat} {xs : List Value} (h : w.ownsRow base e size v n xs) (hn : 0 < n) :
    ∃ g cap, v = .slice (some ⟨g, 0, none⟩) n cap ∧ base ≤ g ∧ g < w.heap.size ∧ n ≤ cap ∧ cap ≤ maxLen ∧ ∀ j u, xs[j]? = some u → w.cell? ⟨g, j, none⟩ = some u := by
  have h' := h
  rcases h'.2 with ⟨rfl, h0⟩ | ⟨g, cap, cur, rfl, hb, hh, hnc, hm, _⟩
  · omega
  · refine ⟨g, cap, rfl, hb, (h.lt g rfl).2, hnc, hm, fun j u hu => ?_⟩
    have := h.cells (g := g) rfl j u hu
    have e : (⟨g, 0, none⟩ : Addr).add j = ⟨g, j, none⟩ := by unfold Addr.add; split <;> simp_all
    rwa [e] at this

theorem own_reads_n {w : World} {base : Nat} {e : TypeId} {size : Nat} {v : Value} {n : Nat} {xs : List Value} (h : w.ownsRow base e size v n xs) :
    ∃ A c, v = .slice A n c ∧ n ≤ c ∧ c ≤ maxLen ∧ Reads w w.heap.size size A n xs := by
  have h' := h
  rcases h'.2 with ⟨rfl, h0⟩ | ⟨g, cap, cur, rfl, hb, hh, hnc, hm, _⟩
  · subst h0
    have : xs = [] := List.eq_nil_of_length_eq_zero (by simpa using h.1)
    subst this
    exact ⟨none, 0, rfl, Nat.le_refl _, Nat.zero_le _, ⟨by simp, fun h => absurd h (by omega)⟩⟩
  · exact ⟨_, cap, rfl, hnc, hm, Reads.of_own h⟩

/-- What a cell holds, under a name that the walk does not open. -/
def cellD (w : World) (p : Addr) : Value := (w.cell? p).getD undef
theorem cellD_of {w : World} {p : Addr} (h : (w.cell? p).isSome = true) : w.cell? p = some (cellD w p) := by
  obtain ⟨v, hv⟩ := Option.isSome_iff_exists.1 h
  unfold cellD
  rw [hv]
  rfl
theorem cellD_eq {w : World} {p : Addr} {v : Value} (h : w.cell? p = some v) : w.cell? p = some (cellD w p) := cellD_of (by rw [h]; rfl)
theorem kcd {w w' : World} {p : Addr} (hb : Below w.heap.size w w') (h : w.cell? p = some (cellD w p)) : w'.cell? p = some (cellD w' p) := cellD_eq (kc hb h)
theorem kfz {w w' : World} {p : Addr} {v : Value} (hb : Below w.heap.size w w') (h : w.cell? p = some v) (hf : w.frozen? p = false) : w'.frozen? p = false := by
  rw [hb.frozen (World.block_lt_of_cell? w _ h)]
  exact hf
theorem ksd {w : World} {p q : Addr} {v : Value} (h : w.cell? q = some (cellD w q)) : (w.setCell p v).cell? q = some (cellD (w.setCell p v) q) := by
  by_cases hp : p = q
  · subst hp
    exact cellD_eq (World.cell?_setCell_same _ _ _ h)
  · exact cellD_eq ((World.cell?_setCell_other w p q v hp).trans h)
theorem set_read {w : World} {p : Addr} {u v : Value} (h : (w.setCell p v).cell? p = some u) : u = v := by
  cases hs : w.cell? p with
  | some x =>
    rw [World.cell?_setCell_same w p v hs] at h
    exact (Option.some.inj h).symm
  | none =>
    exfalso
    unfold World.cell? World.setCell at h
    unfold World.cell? at hs
    simp only [Array.getElem?_modify, if_true] at h
    cases hg : w.heap[p.block]? with
    | none => rw [hg] at h; simp at h
    | some o =>
      rw [hg] at h hs
      cases o <;> simp at h hs
      obtain ⟨h1, h2⟩ := h
      have h3 := hs h1
      rw [h1] at h2
      simp only [Option.isSome_none, Bool.false_eq_true, if_false] at h2
      rw [Array.getElem?_eq_none (by simpa using h3)] at h2
      cases h2
theorem set_two {w : World} {g : Nat} {a b u v : Value} (h0 : ((w.setCell ⟨g, 0, none⟩ a).setCell ⟨g, 1, none⟩ b).cell? ⟨g, 0, none⟩ = some u) (h1 : ((w.setCell ⟨g, 0, none⟩ a).setCell ⟨g, 1, none⟩ b).cell? ⟨g, 1, none⟩ = some v) : u = a ∧ v = b := by
  refine ⟨?_, set_read h1⟩
  rw [World.cell?_setCell_other _ _ _ _ (by simp)] at h0
  exact set_read h0
theorem set_four {w : World} {g : Nat} {a b c d p q r s : Value} (h0 : ((((w.setCell ⟨g, 0, none⟩ a).setCell ⟨g, 1, none⟩ b).setCell ⟨g, 2, none⟩ c).setCell ⟨g, 3, none⟩ d).cell? ⟨g, 0, none⟩ = some p) (h1 : ((((w.setCell ⟨g, 0, none⟩ a).setCell ⟨g, 1, none⟩ b).setCell ⟨g, 2, none⟩ c).setCell ⟨g, 3, none⟩ d).cell? ⟨g, 1, none⟩ = some q)
    (h2 : ((((w.setCell ⟨g, 0, none⟩ a).setCell ⟨g, 1, none⟩ b).setCell ⟨g, 2, none⟩ c).setCell ⟨g, 3, none⟩ d).cell? ⟨g, 2, none⟩ = some r) (h3 : ((((w.setCell ⟨g, 0, none⟩ a).setCell ⟨g, 1, none⟩ b).setCell ⟨g, 2, none⟩ c).setCell ⟨g, 3, none⟩ d).cell? ⟨g, 3, none⟩ = some s) : p = a ∧ q = b ∧ r = c ∧ s = d := by
  refine ⟨?_, ?_, ?_, set_read h3⟩
  · rw [World.cell?_setCell_other _ _ _ _ (by simp), World.cell?_setCell_other _ _ _ _ (by simp), World.cell?_setCell_other _ _ _ _ (by simp)] at h0
    exact set_read h0
  · rw [World.cell?_setCell_other _ _ _ _ (by simp), World.cell?_setCell_other _ _ _ _ (by simp)] at h1
    exact set_read h1
  · rw [World.cell?_setCell_other _ _ _ _ (by simp)] at h2
    exact set_read h2
end Go.Proofs.Ytafokllnelibcaa
