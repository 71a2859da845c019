import Derived.Test.YtagahpfinaaemaaKH

namespace Go.Proofs.Ytagahpfinaaemaa

open Go Go.Sym

set_option linter.unusedVariables false

theorem hvN_ceil {n : Int} (h : 1 ≤ n) : ∀ j : Nat, n ≤ hvN j n * 2 ^ j ∧ (hvN j n - 1) * 2 ^ j < n
  | 0 => by simp [hvN]; omega
  | j + 1 => by
    obtain ⟨h1, h2⟩ := hvN_ceil h j
    have e : hvN (j + 1) n = (hvN j n + 1) / 2 := rfl
    have hp : (0 : Int) < 2 ^ j := Int.pow_pos (by omega)
    have a1 : hvN j n ≤ 2 * hvN (j + 1) n := by rw [e]; omega
    have a2 : 2 * (hvN (j + 1) n - 1) ≤ hvN j n - 1 := by rw [e]; omega
    have b1 := Int.mul_le_mul_of_nonneg_right a1 (Int.le_of_lt hp)
    have b2 := Int.mul_le_mul_of_nonneg_right a2 (Int.le_of_lt hp)
    have c1 : ∀ z : Int, z * 2 ^ (j + 1) = 2 * z * 2 ^ j := fun z => by rw [Int.pow_succ, Int.mul_comm ((2 : Int) ^ j) 2, ← Int.mul_assoc, Int.mul_comm z 2]
    rw [c1, c1]
    omega

/-- one side of a cell's span and of its kids': where the places begin -/
theorem side {n x : Int} {j : Nat} (h : 1 ≤ n) (h1 : 0 ≤ x) (h2 : 2 * x < hvN j n) : ∃ u0 u1 u2 : Int, u0 = 2 * x * 2 ^ j ∧ u1 = min n ((2 * x + 1) * 2 ^ j) ∧ u2 = min n ((2 * x + 1 + 1) * 2 ^ j) ∧
    0 ≤ u0 ∧ u0 < u1 ∧ u1 ≤ u2 ∧ u2 ≤ n ∧ (2 * x + 1 < hvN j n → u1 < u2 ∧ u1 = (2 * x + 1) * 2 ^ j) ∧ (¬ 2 * x + 1 < hvN j n → u1 = u2) ∧ x * 2 ^ (j + 1) = u0 ∧ (x + 1) * 2 ^ (j + 1) = (2 * x + 1 + 1) * 2 ^ j := by
  obtain ⟨c1, c2⟩ := hvN_ceil h j
  have hp : (0 : Int) < 2 ^ j := Int.pow_pos (by omega)
  have m1 : ∀ a b : Int, a ≤ b → a * 2 ^ j ≤ b * 2 ^ j := fun a b hab => Int.mul_le_mul_of_nonneg_right hab (Int.le_of_lt hp)
  have e1 : (2 * x + 1) * 2 ^ j = 2 * x * 2 ^ j + 2 ^ j := by rw [Int.add_mul, Int.one_mul]
  have e2 : (2 * x + 1 + 1) * 2 ^ j = 2 * x * 2 ^ j + 2 ^ j + 2 ^ j := by rw [Int.add_mul, Int.one_mul, e1]
  have e3 : ∀ z : Int, z * 2 ^ (j + 1) = 2 * z * 2 ^ j := fun z => by rw [Int.pow_succ, Int.mul_comm ((2 : Int) ^ j) 2, ← Int.mul_assoc, Int.mul_comm z 2]
  have b0 := m1 (2 * x) (hvN j n - 1) (by omega)
  have n0 : 0 ≤ 2 * x * 2 ^ j := Int.mul_nonneg (by omega) (by omega)
  refine ⟨_, _, _, rfl, rfl, rfl, n0, by omega, by omega, by omega, fun hc => ?_, fun hc => ?_, e3 x, ?_⟩
  · have b1 := m1 (2 * x + 1) (hvN j n - 1) (by omega)
    omega
  · have b1 := m1 (hvN j n) (2 * x + 1) (by omega)
    omega
  · rw [e3, show 2 * (x + 1) = 2 * x + 1 + 1 by omega]

end Go.Proofs.Ytagahpfinaaemaa
