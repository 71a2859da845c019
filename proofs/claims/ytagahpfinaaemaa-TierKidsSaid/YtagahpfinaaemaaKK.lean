import Derived.Test.YtagahpfinaaemaaKJ

namespace Go.Proofs.Ytagahpfinaaemaa

open Go Go.Sym

set_option linter.unusedVariables false

theorem awake15 : saysTrue Try.prog 5000 31 = true := by kernel_rfl

theorem knTierKids_ok : ∀ env : Env, env.fn = FN → KnOk Try.prog env knTierKids := fun env h =>
  knOk_cons (knOk_cons (knOk_cons (knOk_cons (knOk_cons knOk_nil (Pc.ct_ok h areaR_ok)) (Pc.ct_ok h meetR_ok)) (Pc.ct_ok h span_ok)) (Pc.ct_ok h kids_ok)) (ctTrue_ok mix awake15)

def arL : List Int → Int
  | [a, b, c, d] => areaI a b c d
  | _ => 0

def sumK (w h : Int) (j : Nat) (l : List Int) : Nat → Int
  | 0 => 0
  | t + 1 => sumK w h j l t + arL (spanL w h (j : Int) (selL l (t : Int) 2 0) (selL l (t : Int) 2 1))

theorem areaI_bd (a b c d : Int) : 0 ≤ areaI a b c d ∧ areaI a b c d ≤ 1048576 := by
  unfold areaI
  split
  · rename_i h
    unfold rightP at h
    have p1 : 0 ≤ (c + 1 - a) * (d + 1 - b) := Int.mul_nonneg (by omega) (by omega)
    have p2 : (c + 1 - a) * (d + 1 - b) ≤ 1024 * 1024 := Int.mul_le_mul (by omega) (by omega) (by omega) (by omega)
    omega
  · omega

theorem arL_bd (l : List Int) : 0 ≤ arL l ∧ arL l ≤ 1048576 := by
  unfold arL; split
  · exact areaI_bd _ _ _ _
  · omega

theorem sumK_bd (w h : Int) (j : Nat) (l : List Int) : ∀ t : Nat, 0 ≤ sumK w h j l t ∧ sumK w h j l t ≤ t * 1048576
  | 0 => by simp [sumK]
  | t + 1 => by
    have h1 := sumK_bd w h j l t
    have h2 := arL_bd (spanL w h (j : Int) (selL l (t : Int) 2 0) (selL l (t : Int) 2 1))
    simp only [sumK]; omega

theorem cnt_le (A B x y : Int) : 1 ≤ cnt A B x y ∧ cnt A B x y ≤ 4 := by
  unfold cnt two
  by_cases hx : 2 * x + 1 < A <;> by_cases hy : 2 * y + 1 < B <;> simp [hx, hy]

theorem area_pos {a b c d : Int} (h0 : 0 ≤ a) (h1 : a < c) (h2 : c ≤ 1024) (h3 : 0 ≤ b) (h4 : b < d) (h5 : d ≤ 1024) : areaI a b (c - 1) (d - 1) = (c - a) * (d - b) := by
  unfold areaI
  rw [if_pos (by unfold rightP; omega), show c - 1 + 1 - a = c - a by omega, show d - 1 + 1 - b = d - b by omega]

theorem sum_end {w h x y u0 u1 u2 v0 v1 v2 : Int} {j : Nat} (g : Geo w h x y j u0 u1 u2 v0 v1 v2) : sumK w h j (kidsL (hvN j w) (hvN j h) x y) (cnt (hvN j w) (hvN j h) x y) = areaI u0 v0 (u2 - 1) (v2 - 1) := by
  obtain ⟨⟨a1, a2, a3, a4, a5, a6⟩, ⟨b1, b2, b3, b4, b5, b6⟩, _, kid⟩ := g
  rw [area_pos (by omega) (by omega) (by omega) (by omega) (by omega) (by omega)]
  have k00 := (kid 0 0 (.inl rfl) (.inl rfl) (fun h => by omega) (fun h => by omega)).2
  simp only [Int.add_zero] at k00
  by_cases hx : 2 * x + 1 < hvN j w <;> by_cases hy : 2 * y + 1 < hvN j h
  · have k10 := (kid 1 0 (.inr rfl) (.inl rfl) (fun _ => hx) (fun h => by omega)).2
    have k01 := (kid 0 1 (.inl rfl) (.inr rfl) (fun h => by omega) (fun _ => hy)).2
    have k11 := (kid 1 1 (.inr rfl) (.inr rfl) (fun _ => hx) (fun _ => hy)).2
    have a7 := a5 hx
    have b7 := b5 hy
    simp only [Int.add_zero] at k10 k01
    simp [cnt, two, hx, hy, sumK, selL, kidsL, rowK, k00, k10, k01, k11, arL, pu]
    rw [area_pos (by omega) (by omega) (by omega) (by omega) (by omega) (by omega), area_pos (by omega) (by omega) (by omega) (by omega) (by omega) (by omega), area_pos (by omega) (by omega) (by omega) (by omega) (by omega) (by omega), area_pos (by omega) (by omega) (by omega) (by omega) (by omega) (by omega)]
    rw [show u2 - u0 = (u1 - u0) + (u2 - u1) by omega, show v2 - v0 = (v1 - v0) + (v2 - v1) by omega]
    simp only [Int.add_mul, Int.mul_add]
    omega
  · have k10 := (kid 1 0 (.inr rfl) (.inl rfl) (fun _ => hx) (fun h => by omega)).2
    have a7 := a5 hx
    have b7 := b6 hy
    simp only [Int.add_zero] at k10
    simp [cnt, two, hx, hy, sumK, selL, kidsL, rowK, k00, k10, arL, pu]
    rw [area_pos (by omega) (by omega) (by omega) (by omega) (by omega) (by omega), area_pos (by omega) (by omega) (by omega) (by omega) (by omega) (by omega)]
    rw [show u2 - u0 = (u1 - u0) + (u2 - u1) by omega, b7]
    simp only [Int.add_mul]
  · have k01 := (kid 0 1 (.inl rfl) (.inr rfl) (fun h => by omega) (fun _ => hy)).2
    have a7 := a6 hx
    have b7 := b5 hy
    simp only [Int.add_zero] at k01
    simp [cnt, two, hx, hy, sumK, selL, kidsL, rowK, k00, k01, arL, pu]
    rw [area_pos (by omega) (by omega) (by omega) (by omega) (by omega) (by omega), area_pos (by omega) (by omega) (by omega) (by omega) (by omega) (by omega)]
    rw [show v2 - v0 = (v1 - v0) + (v2 - v1) by omega, a7]
    simp only [Int.mul_add]
  · have a7 := a6 hx
    have b7 := b6 hy
    simp [cnt, two, hx, hy, sumK, selL, kidsL, rowK, k00, arL, pu]
    rw [area_pos (by omega) (by omega) (by omega) (by omega) (by omega) (by omega), a7, b7]

end Go.Proofs.Ytagahpfinaaemaa
