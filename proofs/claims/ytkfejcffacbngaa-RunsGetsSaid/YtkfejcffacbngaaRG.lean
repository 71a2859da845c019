import Derived.Test.YtkfejcffacbngaaRF
import Derived.Test.YtkfejcffacbngaaW
import Derived.Maps.OwnIn
import Derived.Lib.SliceRun

namespace Go.Proofs.Ytkfejcffacbngaa.J

open Go Go.RowKit Go.Shelf

set_option linter.unusedVariables false

attribute [local go_sem] Oper.semAt_some

abbrev B8 (l : List Int) : List Value := l.map (Value.int .u8)

/-- what a round of Put has kept: its box, the iterator's box, the bytes so far -/
structure KeptR (w : World) (N B b : Nat) (rv : Value) (W W' : World) (v : Value) (xs : List Int) : Prop where
  others : KeepsOthers W W'
  keep : Keep2 b (B + 1) W W'
  box : Boxed W' B 22 v
  it : Boxed W' (B + 1) 23 rv
  row : W'.ownsRow N 5 1 v xs.length (B8 xs)
  below : Below N w W'

theorem KeptR.start {w W : World} {N B b : Nat} {rv v : Value} {xs : List Int} (h : Boxed W B 22 v) (h2 : Boxed W (B + 1) 23 rv) (hr : W.ownsRow N 5 1 v xs.length (B8 xs)) (hB : Below N w W) : KeptR w N B b rv W W v xs :=
  ⟨KeepsOthers.refl _, Keep2.refl _ _ _, h, h2, hr, hB⟩

theorem own_keep {w w' : World} {base : Nat} {e : TypeId} {size : Nat} {v : Value} {n : Nat} {xs : List Value} (h : w.ownsRow base e size v n xs) (hb : Below w.heap.size w w') : w'.ownsRow base e size v n xs := by
  refine ⟨h.1, ?_⟩
  rcases h.2 with h0 | ⟨g, cap, cur, h1, h2, h3, h4⟩
  · exact .inl h0
  · exact .inr ⟨g, cap, cur, h1, h2, by rw [hb.block g (Array.getElem?_eq_some_iff.1 h3).1]; exact h3, h4⟩

theorem KeptR.step {w W W1 w1 : World} {N B b : Nat} {rv v : Value} {xs : List Int} (h : KeptR w N B b rv W W1 v xs) (hN : N ≤ W1.heap.size) (hb : Below W1.heap.size W1 w1) : KeptR w N B b rv W w1 v xs :=
  ⟨h.others.trans (KeepsOthers.of_below hb), h.keep.trans (Keep2.of_all hb), (hb.block B h.box.lt).trans h.box, (hb.block (B + 1) h.it.lt).trans h.it, own_keep h.row hb, h.below.trans (hb.mono hN)⟩

theorem KeptR.drew {w W W1 : World} {N B b : Nat} {rv v : Value} {xs : List Int} (h : KeptR w N B b rv W W1 v xs) : KeptR w N B b rv W W1.drew v xs :=
  ⟨h.others.trans (KeepsOthers.drew _), fun k o u hk hu => h.keep k o u hk hu, h.box, h.it, h.row, h.below.drew⟩

theorem KeptR.append {w W W1 w1 : World} {N B b : Nat} {rv v v' : Value} {xs ys : List Int} {m : Nat} (h : KeptR w N B b rv W W1 v xs) (hb : b < N ∨ b = B + 1) (hNB : N ≤ B) (hN : N ≤ W1.heap.size)
    (hown : w1.ownsRow N 5 1 v' m (B8 ys)) (hm : m = ys.length) (hg : W1.grownBy w1 v.ownBlock) : Boxed w1 B 22 v ∧ KeptR w N B b rv W (w1.setCell ⟨B, 0, none⟩ v') v' ys := by
  subst hm
  have hv1 : Boxed w1 B 22 v := h.box.kept hg (h.box.not_row (by decide) h.row)
  have hi1 : Boxed w1 (B + 1) 23 rv := h.it.kept hg (h.it.not_row (by decide) h.row)
  have hrow : ∀ j, v.ownBlock = some j → N ≤ j ∧ ∃ o : Obj, W1.heap[j]? = some o ∧ o.isCells = true := by
    intro j ej
    rcases h.row.2 with ⟨rfl, _⟩ | ⟨g, cap, cur, rfl, hb, hgb, _⟩
    · simp [Value.ownBlock] at ej
    · obtain rfl : g = j := by simpa [Value.ownBlock] using ej
      exact ⟨hb, _, hgb, rfl⟩
  refine ⟨hv1, ?_, ?_, hv1.set v', ?_, hown.kept (grownBy_setCell' w1 B v') (.inr (hv1.not_row (by decide) hown).symm), ?_⟩
  · exact (h.others.trans (KeepsOthers.of_grownBy hg fun j o ej hj => by obtain ⟨_, o', h1, h2⟩ := hrow j ej; rw [hj] at h1; cases h1; exact h2)).trans (KeepsOthers.setCell _ _ _)
  · intro k o u hk hu
    have h1 := h.keep k o u hk hu
    have hlt : k < W1.heap.size := by
      simp only [World.cell?] at h1
      split at h1
      · rename_i hq; exact (Array.getElem?_eq_some_iff.1 hq).1
      · cases h1
    have hne : some k ≠ v.ownBlock := by
      intro e
      by_cases hkB : k = B + 1
      · subst hkB; exact h.it.not_row (by decide) h.row e
      · have := (hrow k e.symm).1; omega
    have h2 : w1.cell? ⟨k, o, none⟩ = some u := (World.cell?_of_block (w := W1) (hg.block k hlt hne)).trans h1
    exact (World.cell?_setCell_other w1 ⟨B, 0, none⟩ ⟨k, o, none⟩ v' (fun e => by have := congrArg Addr.block e; simp at this; omega)).trans h2
  · exact hi1.kept (grownBy_setCell' w1 B v') (by simp)
  · exact ((h.below.grown hg hN fun j ej => (hrow j ej).1)).setCell (p := ⟨B, 0, none⟩) hNB v'

/-- leb.Put of nothing, as a call -/
theorem put_call (u : Int) (h0 : 0 ≤ u) (h1 : u ≤ 18446744073709551615) (w : World) : Calls Try.prog 76 #[.slice none 0 0, .int .u64 u] w fun e w' => ∃ g c, e = .returned (.slice (some ⟨g, 0, none⟩) (lebN 10 u).length c) ∧ (∀ j z, (B8 (lebN 10 u))[j]? = some z → w'.cell? ((⟨g, 0, none⟩ : Addr).add j) = some z) ∧ Below w.heap.size w w' := by
  refine (leb_ok w #[.slice none 0 0, .int .u64 u] [[], [u]] ⟨⟨by decide, none, 0, 0, rfl, Nat.le_refl _, rfl, .inr rfl⟩, ⟨u, rfl, rfl⟩, trivial⟩ ?_ trivial).mono ?_
  · refine ⟨fun k l hk hl => ?_, fun k l hk hl => ?_, trivial⟩
    · cases hk; cases hl; simp [Sym.measL]
    · cases hk; cases hl; simp [Sym.measL]; omega
  · rintro e w' ⟨hb, v, vs', rfl, ht, hr⟩
    obtain ⟨x, vs2, rfl, ⟨_, hx⟩, rfl⟩ := hr
    simp only [Sym.TupIs] at ht
    subst ht
    have e1 : FNa pcLeb.id [[], [u]] = lebN 10 u := rfl
    rw [e1] at hx
    rcases hx with ⟨hx, _⟩ | ⟨_, b, n, c, cells, lo, hi, rfl, hn, _, _, _, _, _, hrow⟩
    · have := (lebN_len' 10 u).1; rw [hx] at this; simp at this
    · refine ⟨b, c, by rw [hn]; simp, fun j z hz => ?_, hb⟩
      rw [List.getElem?_map] at hz
      cases hq : (lebN 10 u)[j]? with
      | none => rw [hq] at hz; cases hz
      | some q =>
        rw [hq] at hz
        cases hz
        have := hrow j q hq
        rw [Sym.addr_add]
        simpa [Sym.kindAt, Nat.mod_one] using this

end Go.Proofs.Ytkfejcffacbngaa.J
