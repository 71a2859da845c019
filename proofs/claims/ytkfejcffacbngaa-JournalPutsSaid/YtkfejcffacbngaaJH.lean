import Derived.Test.YtkfejcffacbngaaJG

namespace Go.Proofs.Ytkfejcffacbngaa.J

open Go Go.Sym

set_option linter.unusedVariables false


theorem ofI32 (a : Nat) (ha : a < 4294967296) : (BitVec.ofInt 32 (a : Int)).toNat = a := by
  rw [BitVec.ofInt_natCast, BitVec.toNat_ofNat]; exact Nat.mod_eq_of_lt (by omega)

theorem w32 (n : Int) (h0 : 0 ≤ n) (h1 : n < 4294967296) : IntKind.u32.wrap n = n := by rw [wrap_u32 ⟨h0, by omega⟩]

theorem xorN (a b : Nat) (ha : a < 4294967296) (hb : b < 4294967296) : binI .xor .u32 (a : Int) (b : Int) = ((a ^^^ b : Nat) : Int) := by
  have hx : a ^^^ b < 2 ^ 32 := Nat.xor_lt_two_pow (by omega) (by omega)
  show IntKind.u32.wrap ((BitVec.ofInt 32 (a : Int) ^^^ BitVec.ofInt 32 (b : Int)).toNat : Int) = _
  rw [BitVec.toNat_xor, ofI32 a ha, ofI32 b hb, w32 _ (by omega) (by omega)]

theorem andN (a b : Nat) (ha : a < 4294967296) (hb : b < 4294967296) : binI .and .u32 (a : Int) (b : Int) = ((a &&& b : Nat) : Int) := by
  have hx : a &&& b < 2 ^ 32 := Nat.and_lt_two_pow _ (by omega)
  show IntKind.u32.wrap ((BitVec.ofInt 32 (a : Int) &&& BitVec.ofInt 32 (b : Int)).toNat : Int) = _
  rw [BitVec.toNat_and, ofI32 a ha, ofI32 b hb, w32 _ (by omega) (by omega)]

theorem xor_comm (a b : Int) : binI .xor .u32 a b = binI .xor .u32 b a := by
  show IntKind.u32.wrap ((BitVec.ofInt 32 a ^^^ BitVec.ofInt 32 b).toNat : Int) = IntKind.u32.wrap ((BitVec.ofInt 32 b ^^^ BitVec.ofInt 32 a).toNat : Int)
  rw [BitVec.xor_comm]

theorem xor_rng (a b : Int) : 0 ≤ binI .xor .u32 a b ∧ binI .xor .u32 a b ≤ 4294967295 := by
  have h : (BitVec.ofInt 32 a ^^^ BitVec.ofInt 32 b).toNat < 2 ^ 32 := (BitVec.ofInt 32 a ^^^ BitVec.ofInt 32 b).isLt
  show 0 ≤ IntKind.u32.wrap ((BitVec.ofInt 32 a ^^^ BitVec.ofInt 32 b).toNat : Int) ∧ IntKind.u32.wrap ((BitVec.ofInt 32 a ^^^ BitVec.ofInt 32 b).toNat : Int) ≤ 4294967295
  rw [w32 _ (by omega) (by omega)]
  omega

theorem remN (s : Int) (h0 : 0 ≤ s) : binI .rem .u32 s 2 = s % 2 := by
  show s.tmod 2 = s % 2
  rw [Int.tmod_eq_emod_of_nonneg h0]
theorem quoN (s : Int) (h0 : 0 ≤ s) (h1 : s ≤ 4294967295) : binI .quo .u32 s 2 = s / 2 := by
  show IntKind.u32.wrap (s.tdiv 2) = s / 2
  rw [Int.tdiv_eq_ediv_of_nonneg h0, w32 _ (by omega) (by omega)]

theorem cstep_go (s : Int) (h0 : 0 ≤ s) (h1 : s ≤ 4294967295) : cstep s = if s % 2 = 1 then binI .xor .u32 (s / 2) 2197175160 else s / 2 := by
  obtain ⟨a, rfl⟩ := Int.eq_ofNat_of_zero_le h0
  have ha : a < 4294967296 := by omega
  have e1 : binI .and .u32 (a : Int) 1 = ((a % 2 : Nat) : Int) := by
    have := andN a 1 ha (by decide)
    rw [Nat.and_one_is_mod] at this
    exact this
  have e0 : binI .shr .u32 (a : Int) 1 = ((a / 2 : Nat) : Int) := by
    show (a : Int).fdiv 2 = _
    rw [Int.fdiv_eq_ediv_of_nonneg _ (by omega)]
    omega
  unfold cstep
  rw [e1, e0]
  rcases Nat.mod_two_eq_zero_or_one a with h | h
  · rw [h, if_neg (by omega)]
    have e2 : binI .and .u32 2197175160 (binI .sub .u32 0 ((0 : Nat) : Int)) = 0 := by decide
    have e3 := xorN (a / 2) 0 (by omega) (by decide)
    rw [Nat.xor_zero] at e3
    rw [e2, show ((a : Int) / 2) = ((a / 2 : Nat) : Int) by omega]
    exact e3
  · rw [h, if_pos (by omega)]
    have e2 : binI .and .u32 2197175160 (binI .sub .u32 0 ((1 : Nat) : Int)) = 2197175160 := by decide
    rw [e2]
    rfl

theorem cstep_rng (s : Int) (h0 : 0 ≤ s) (h1 : s ≤ 4294967295) : 0 ≤ cstep s ∧ cstep s ≤ 4294967295 := by
  rw [cstep_go s h0 h1]
  split
  · exact xor_rng _ _
  · omega
theorem cit_rng (k : Nat) (s : Int) (h0 : 0 ≤ s) (h1 : s ≤ 4294967295) : 0 ≤ cit k s ∧ cit k s ≤ 4294967295 := by
  induction k generalizing s with
  | zero => exact ⟨h0, h1⟩
  | succ k ih => exact ih _ (cstep_rng s h0 h1).1 (cstep_rng s h0 h1).2
theorem cfold_rng (s : Int) (l : List Int) (h0 : 0 ≤ s) (h1 : s ≤ 4294967295) : 0 ≤ cfold s l ∧ cfold s l ≤ 4294967295 := by
  induction l generalizing s with
  | nil => exact ⟨h0, h1⟩
  | cons c l ih =>
    have := cit_rng 8 (binI .xor .u32 s (IntKind.u32.wrap c)) (xor_rng _ _).1 (xor_rng _ _).2
    exact ih (cbyte s c) this.1 this.2
theorem crcM_rng (s : Int) (l : List Int) : 0 ≤ crcM s l ∧ crcM s l ≤ 4294967295 := xor_rng _ _

end Go.Proofs.Ytkfejcffacbngaa.J
