/- The sum CRC-32C, step by step: plain facts. -/
import Derived.Test.YtbbldkcakepnoaaW
import Derived.Laws.BitsAllLaws
import Derived.Lib.SlBytesConst
namespace Go.Proofs.Ytbbldkcakepnoaa
open Go.RowKit Go.Lib

def cstep (s : Int) : Int := if s % 2 = 1 then bits .xor .u32 (s / 2) 2197175160 else s / 2
def cit : Nat → Int → Int
  | 0, s => s
  | k + 1, s => cstep (cit k s)
def cbyte (s c : Int) : Int := cit 8 (bits .xor .u32 s c)
def cfold (s : Int) (l : List Int) : Int := l.foldl cbyte s
def crcM (s : Int) (l : List Int) : Int := bits .xor .u32 (cfold (bits .xor .u32 s 4294967295) l) 4294967295

theorem bits_rng (op : BinOp) (x y : Int) : 0 ≤ bits op .u32 x y ∧ bits op .u32 x y ≤ 4294967295 := bounds_u32 (wf_bits op .u32 x y)
theorem cstep_rng (s : Int) (h0 : 0 ≤ s) (h1 : s ≤ 4294967295) : 0 ≤ cstep s ∧ cstep s ≤ 4294967295 := by
  unfold cstep
  split
  · exact bits_rng _ _ _
  · omega
theorem cit_rng (k : Nat) (s : Int) (h0 : 0 ≤ s) (h1 : s ≤ 4294967295) : 0 ≤ cit k s ∧ cit k s ≤ 4294967295 := by
  induction k with
  | zero => exact ⟨h0, h1⟩
  | succ k ih => exact cstep_rng _ ih.1 ih.2
theorem cfold_snoc (s : Int) (l : List Int) (c : Int) : cfold s (l ++ [c]) = cbyte (cfold s l) c := by simp [cfold]
theorem cfold_append (s : Int) (l r : List Int) : cfold s (l ++ r) = cfold (cfold s l) r := by simp [cfold]
theorem cfold_rng (s : Int) (l : List Int) (h0 : 0 ≤ s) (h1 : s ≤ 4294967295) : 0 ≤ cfold s l ∧ cfold s l ≤ 4294967295 := by
  induction l generalizing s with
  | nil => exact ⟨h0, h1⟩
  | cons c l ih =>
    have := cit_rng 8 (bits .xor .u32 s c) (bits_rng _ _ _).1 (bits_rng _ _ _).2
    exact ih (cbyte s c) this.1 this.2

theorem xor_inv (x : Int) (h0 : 0 ≤ x) (h1 : x ≤ 4294967295) : bits .xor .u32 (bits .xor .u32 x 4294967295) 4294967295 = x := by
  obtain ⟨a, rfl⟩ := Int.eq_ofNat_of_zero_le h0
  have ha : a < 4294967296 := by omega
  have hm : (4294967295 : Int) = ((4294967295 : Nat) : Int) := rfl
  rw [hm, u32_xor_nat a 4294967295 ha (by decide), u32_xor_nat _ 4294967295 (Nat.xor_lt_two_pow (n := 32) ha (by decide)) (by decide), Nat.xor_assoc, Nat.xor_self, Nat.xor_zero]
theorem cstep_go (s : Int) (h0 : 0 ≤ s) (h1 : s ≤ 4294967295) :
    bits .xor .u32 (s / 2) (bits .and .u32 2197175160 (IntKind.u32.wrap (-(bits .and .u32 s 1)))) = cstep s := by
  obtain ⟨a, rfl⟩ := Int.eq_ofNat_of_zero_le h0
  have ha : a < 4294967296 := by omega
  have e1 : bits .and .u32 (a : Int) 1 = ((a % 2 : Nat) : Int) := by
    have := u32_and_nat a 1 ha (by decide)
    rw [Nat.and_one_is_mod] at this
    exact this
  rw [e1]
  unfold cstep
  rcases Nat.mod_two_eq_zero_or_one a with h | h
  · rw [h, if_neg (by omega)]
    have e2 : bits .and .u32 2197175160 (IntKind.u32.wrap (-((0 : Nat) : Int))) = 0 := by decide
    have e3 := u32_xor_nat (a / 2) 0 (by omega) (by decide)
    rw [Nat.xor_zero] at e3
    rw [e2, show ((a : Int) / 2) = ((a / 2 : Nat) : Int) by omega]
    exact e3
  · rw [h, if_pos (by omega)]
    have e2 : bits .and .u32 2197175160 (IntKind.u32.wrap (-((1 : Nat) : Int))) = 2197175160 := by decide
    rw [e2]
theorem crcM_more (a b : List Int) (s : Int) : crcM (crcM s a) b = crcM s (a ++ b) := by
  unfold crcM
  have h := cfold_rng (bits .xor .u32 s 4294967295) a (bits_rng _ _ _).1 (bits_rng _ _ _).2
  rw [cfold_append, xor_inv _ h.1 h.2]
theorem crcM_nil : crcM 0 [] = 0 := xor_inv 0 (by decide) (by decide)
theorem crcM_rng (s : Int) (l : List Int) : 0 ≤ crcM s l ∧ crcM s l ≤ 4294967295 := bits_rng _ _ _
set_option maxRecDepth 100000 in
theorem crc_digits : crcM 0 [49, 50, 51, 52, 53, 54, 55, 56, 57] = 3808858755 := by decide +kernel

end Go.Proofs.Ytbbldkcakepnoaa
