/- Levels of a pyramid, as numbers. -/
import Derived.Test.YtagahpfinaaemaaSyCc

namespace Go.Sym

set_option linter.unusedVariables false

def hv (n : Int) : Int := (n + 1) / 2

def hvN : Nat → Int → Int
  | 0, n => n
  | k + 1, n => hv (hvN k n)

def lv : Nat → Int → Int → Nat
  | 0, _, _ => 1
  | f + 1, w, h => if 1 < w ∨ 1 < h then lv f (hv w) (hv h) + 1 else 1

def szOk (w h : Int) : Prop := 1 ≤ w ∧ w ≤ 1024 ∧ 1 ≤ h ∧ h ≤ 1024

instance (w h : Int) : Decidable (szOk w h) := by unfold szOk; infer_instance

def szL : Nat → Int → Int → List Int
  | 0, w, h => [w, h]
  | f + 1, w, h => w :: h :: (if 1 < w ∨ 1 < h then szL f (hv w) (hv h) else [])

theorem hv_pos {n : Int} (h : 1 ≤ n) : 1 ≤ hv n := by unfold hv; omega
theorem hv_le {n : Int} (h : 1 ≤ n) : hv n ≤ n := by unfold hv; omega
theorem hv_lt {n : Int} (h : 1 < n) : hv n < n := by unfold hv; omega
theorem hv_pow {n : Int} {f : Nat} (h : n ≤ ((2 ^ (f + 1) : Nat) : Int)) : hv n ≤ ((2 ^ f : Nat) : Int) := by
  unfold hv; rw [Nat.pow_succ] at h; omega
theorem hv_tdiv {n : Int} (h : 1 ≤ n) : Int.tdiv (n + 1) 2 = hv n := by unfold hv; rw [Int.tdiv_eq_ediv_of_nonneg (by omega)]

theorem hvN_pos {n : Int} (h : 1 ≤ n) : ∀ k, 1 ≤ hvN k n
  | 0 => h
  | k + 1 => hv_pos (hvN_pos h k)
theorem hvN_le {n : Int} (h : 1 ≤ n) : ∀ k, hvN k n ≤ n
  | 0 => Int.le_refl _
  | k + 1 => Int.le_trans (hv_le (hvN_pos h k)) (hvN_le h k)
theorem hvN_succ (k : Nat) (n : Int) : hvN (k + 1) n = hvN k (hv n) := by
  induction k with
  | zero => rfl
  | succ k ih => show hv (hvN (k + 1) n) = hv (hvN k (hv n)); rw [ih]
theorem hvN_pow {n : Int} : ∀ {k f : Nat}, n ≤ ((2 ^ (f + k) : Nat) : Int) → hvN k n ≤ ((2 ^ f : Nat) : Int)
  | 0, f, h => h
  | k + 1, f, h => hv_pow (hvN_pow (k := k) (f := f + 1) (by rw [show f + 1 + k = f + (k + 1) by omega]; exact h))

theorem lv_stop {w h : Int} (hc : ¬ (1 < w ∨ 1 < h)) : ∀ f, lv f w h = 1
  | 0 => rfl
  | f + 1 => by simp only [lv, if_neg hc]
theorem lv_step {w h : Int} (hc : 1 < w ∨ 1 < h) (f : Nat) : lv (f + 1) w h = lv f (hv w) (hv h) + 1 := by simp only [lv, if_pos hc]
theorem lv_pos : ∀ f w h, 1 ≤ lv f w h
  | 0, _, _ => Nat.le_refl _
  | f + 1, w, h => by simp only [lv]; split <;> omega
theorem lv_le : ∀ f w h, lv f w h ≤ f + 1
  | 0, _, _ => Nat.le_refl _
  | f + 1, w, h => by
    simp only [lv]; split
    · have := lv_le f (hv w) (hv h); omega
    · omega
/-- more fuel than is wanted changes nothing -/
theorem lv_more : ∀ {f : Nat} {w h : Int}, 1 ≤ w → 1 ≤ h → w ≤ ((2 ^ f : Nat) : Int) → h ≤ ((2 ^ f : Nat) : Int) → lv (f + 1) w h = lv f w h
  | 0, w, h, h1, h2, h3, h4 => by
    have e : ((2 ^ 0 : Nat) : Int) = 1 := rfl
    rw [e] at h3 h4
    have h5 : ¬ (1 < w ∨ 1 < h) := by omega
    simp only [lv, if_neg h5]
  | f + 1, w, h, h1, h2, h3, h4 => by
    rw [lv]
    conv => rhs; rw [lv]
    rw [lv_more (hv_pos h1) (hv_pos h2) (hv_pow h3) (hv_pow h4)]

theorem szL_len : ∀ f w h, (szL f w h).length = 2 * lv f w h
  | 0, _, _ => rfl
  | f + 1, w, h => by
    simp only [szL, lv]; split
    · simp only [List.length_cons, szL_len f]; omega
    · rfl

theorem szL_get : ∀ (f : Nat) (w h : Int) (k : Nat), k < lv f w h → (szL f w h)[2 * k]? = some (hvN k w) ∧ (szL f w h)[2 * k + 1]? = some (hvN k h)
  | 0, w, h, k, hk => by simp only [lv] at hk; obtain rfl : k = 0 := by omega
                         exact ⟨rfl, rfl⟩
  | f + 1, w, h, 0, hk => by simp only [szL]; exact ⟨rfl, rfl⟩
  | f + 1, w, h, k + 1, hk => by
    simp only [lv] at hk
    by_cases hc : 1 < w ∨ 1 < h
    · rw [if_pos hc] at hk
      have := szL_get f (hv w) (hv h) k (by omega)
      simp only [szL, if_pos hc, hvN_succ]
      rw [show 2 * (k + 1) = 2 * k + 1 + 1 by omega]
      simp only [List.getElem?_cons_succ]
      exact this
    · rw [if_neg hc] at hk; omega

end Go.Sym
