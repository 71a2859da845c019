import Derived.Test.YtagahpfinaaemaaKI

namespace Go.Proofs.Ytagahpfinaaemaa

open Go Go.Sym

set_option linter.unusedVariables false

def two (c : Prop) [Decidable c] : Nat := if c then 2 else 1

def cnt (A B x y : Int) : Nat := two (2 * x + 1 < A) * two (2 * y + 1 < B)

theorem kidsL_len (A B x y : Int) : (kidsL A B x y).length = cnt A B x y * 2 := by
  unfold kidsL rowK cnt two
  by_cases hx : 2 * x + 1 < A <;> by_cases hy : 2 * y + 1 < B <;> simp [hx, hy]

theorem kid_get {A B x y : Int} {i : Nat} (hi : i < cnt A B x y) : ∃ bx by' : Int, (bx = 0 ∨ bx = 1) ∧ (by' = 0 ∨ by' = 1) ∧ selL (kidsL A B x y) i 2 0 = 2 * x + bx ∧ selL (kidsL A B x y) i 2 1 = 2 * y + by' ∧
    (bx = 1 → 2 * x + 1 < A) ∧ (by' = 1 → 2 * y + 1 < B) ∧ (i : Int) = by' * (two (2 * x + 1 < A) : Nat) + bx := by
  unfold cnt two at hi
  unfold two
  by_cases hx : 2 * x + 1 < A <;> by_cases hy : 2 * y + 1 < B <;> simp only [hx, hy, if_true, if_false] at hi ⊢
  · rcases (by omega : i = 0 ∨ i = 1 ∨ i = 2 ∨ i = 3) with rfl | rfl | rfl | rfl
    · exact ⟨0, 0, by simp [selL, kidsL, rowK, hx, hy]⟩
    · exact ⟨1, 0, by simp [selL, kidsL, rowK, hx, hy]⟩
    · exact ⟨0, 1, by simp [selL, kidsL, rowK, hx, hy]⟩
    · exact ⟨1, 1, by simp [selL, kidsL, rowK, hx, hy]⟩
  · rcases (by omega : i = 0 ∨ i = 1) with rfl | rfl
    · exact ⟨0, 0, by simp [selL, kidsL, rowK, hx, hy]⟩
    · exact ⟨1, 0, by simp [selL, kidsL, rowK, hx, hy]⟩
  · rcases (by omega : i = 0 ∨ i = 1) with rfl | rfl
    · exact ⟨0, 0, by simp [selL, kidsL, rowK, hx, hy]⟩
    · exact ⟨0, 1, by simp [selL, kidsL, rowK, hx, hy]⟩
  · obtain rfl : i = 0 := by omega
    exact ⟨0, 0, by simp [selL, kidsL, rowK, hx, hy]⟩

def pu (u0 u1 b : Int) : Int := if b = 0 then u0 else u1

/-- the places of a cell and of its kids -/
structure Geo (w h x y : Int) (j : Nat) (u0 u1 u2 v0 v1 v2 : Int) : Prop where
  ku : 0 ≤ u0 ∧ u0 < u1 ∧ u1 ≤ u2 ∧ u2 ≤ 1024 ∧ (2 * x + 1 < hvN j w → u1 < u2) ∧ (¬ 2 * x + 1 < hvN j w → u1 = u2)
  kv : 0 ≤ v0 ∧ v0 < v1 ∧ v1 ≤ v2 ∧ v2 ≤ 1024 ∧ (2 * y + 1 < hvN j h → v1 < v2) ∧ (¬ 2 * y + 1 < hvN j h → v1 = v2)
  par : spanL w h ((j + 1 : Nat) : Int) x y = [u0, v0, u2 - 1, v2 - 1]
  kid : ∀ bx by' : Int, (bx = 0 ∨ bx = 1) → (by' = 0 ∨ by' = 1) → (bx = 1 → 2 * x + 1 < hvN j w) → (by' = 1 → 2 * y + 1 < hvN j h) →
    hasC w h (j : Int) (2 * x + bx) (2 * y + by') = 0 ∧ spanL w h (j : Int) (2 * x + bx) (2 * y + by') = [pu u0 u1 bx, pu v0 v1 by', pu u1 u2 bx - 1, pu v1 v2 by' - 1]

theorem geo {w h x y : Int} {j : Nat} (hc : kidsC w h ((j + 1 : Nat) : Int) x y = 0) : ∃ u0 u1 u2 v0 v1 v2, Geo w h x y j u0 u1 u2 v0 v1 v2 := by
  obtain ⟨i, e, q1, q2, q3, q4, q5, q6, q7, q8⟩ := kids_facts hc
  obtain rfl : j = i := by omega
  have hs := sizeC_zero.1 q2
  have hok := hs.1
  unfold szOk at hok
  obtain ⟨u0, u1, u2, a1, a2, a3, a4, a5, a6, a7, a8, a9, a10, a11⟩ := side hok.1 q5 q7
  obtain ⟨v0, v1, v2, b1, b2, b3, b4, b5, b6, b7, b8, b9, b10, b11⟩ := side hok.2.2.1 q6 q8
  refine ⟨u0, u1, u2, v0, v1, v2, ⟨⟨a4, a5, a6, by omega, fun h => (a8 h).1, a9⟩, ⟨b4, b5, b6, by omega, fun h => (b8 h).1, b9⟩, ?_, ?_⟩⟩
  · have := (kidsC_zero.1 hc).1
    simp only [spanL, if_pos this, Int.toNat_natCast, a10, a11, b10, b11, ← a3, ← b3]
  · intro bx by' h1 h2 h3 h4
    have hh : hasC w h (j : Int) (2 * x + bx) (2 * y + by') = 0 := hasC_zero.2 ⟨hs, by simp only [Int.toNat_natCast]; omega⟩
    refine ⟨hh, ?_⟩
    simp only [spanL, if_pos hh, Int.toNat_natCast]
    rcases h1 with rfl | rfl <;> rcases h2 with rfl | rfl <;> simp only [pu, Int.add_zero, if_true, if_neg (show ¬ (1 : Int) = 0 by omega), ← a1, ← a2, ← a3, ← b1, ← b2, ← b3, ← (a8 (h3 _)).2, ← (b8 (h4 _)).2]

end Go.Proofs.Ytagahpfinaaemaa
