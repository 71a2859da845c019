import Derived.Test.YtkfejcffacbngaaRB
import Derived.Lib.Strings
import Derived.Lib.Slices
import Derived.Lib.Small
import Derived.Lib.Walk
import Derived.Lib.BitFns

namespace Go.Proofs.Ytkfejcffacbngaa.J

open Go Go.RowKit Go.Lib

set_option linter.unusedVariables false

theorem ret_int {k : IntKind} {a b : Int} (h : a = b) : Ending.returned (.int k a) = .returned (.int k b) := by rw [h]

set_option maxRecDepth 100000 in
theorem fold_tab : (⟨((([0, 1, 2, 2, 3, 3, 3, 3, 4, 4, 4, 4, 4, 4, 4, 4, 5, 5, 5, 5, 5, 5, 5, 5, 5, 5, 5, 5, 5, 5, 5, 5, 6, 6, 6, 6, 6, 6, 6, 6, 6, 6, 6, 6, 6, 6, 6, 6, 6, 6, 6, 6, 6, 6, 6, 6, 6, 6, 6, 6, 6, 6, 6, 6] : List UInt8).append [7, 7, 7, 7, 7, 7, 7, 7, 7, 7, 7, 7, 7, 7, 7, 7, 7, 7, 7, 7, 7, 7, 7, 7, 7, 7, 7, 7, 7, 7, 7, 7, 7, 7, 7, 7, 7, 7, 7, 7, 7, 7, 7, 7, 7, 7, 7, 7, 7, 7, 7, 7, 7, 7, 7, 7, 7, 7, 7, 7, 7, 7, 7, 7]).append ([8, 8, 8, 8, 8, 8, 8, 8, 8, 8, 8, 8, 8, 8, 8, 8, 8, 8, 8, 8, 8, 8, 8, 8, 8, 8, 8, 8, 8, 8, 8, 8, 8, 8, 8, 8, 8, 8, 8, 8, 8, 8, 8, 8, 8, 8, 8, 8, 8, 8, 8, 8, 8, 8, 8, 8, 8, 8, 8, 8, 8, 8, 8, 8].append [8, 8, 8, 8, 8, 8, 8, 8, 8, 8, 8, 8, 8, 8, 8, 8, 8, 8, 8, 8, 8, 8, 8, 8, 8, 8, 8, 8, 8, 8, 8, 8, 8, 8, 8, 8, 8, 8, 8, 8, 8, 8, 8, 8, 8, 8, 8, 8, 8, 8, 8, 8, 8, 8, 8, 8, 8, 8, 8, 8, 8, 8, 8, 8])).toArray⟩ : ByteArray) = Lib.len8tab := by kernel_rfl
attribute [local go_sem high] fold_tab

set_option maxHeartbeats 400000 in
set_option maxRecDepth 100000 in
theorem len64_111 (x : Int) (w : World) (h0 : 0 ≤ x) (h1 : x ≤ 18446744073709551615) (t1 : 4294967296 ≤ x) (t2 : 65536 ≤ x / 4294967296) (t3 : 256 ≤ x / 4294967296 / 65536) :
    Calls Try.prog 119 #[.int .u64 x] w fun e w' => e = .returned (.int .i64 (Lib.bitLen x.toNat)) ∧ w = w' := by
  have k0 : 0 ≤ x / 4294967296 / 65536 / 256 := by omega
  have k1 : x / 4294967296 / 65536 / 256 ≤ 255 := by omega
  have e : (x / 4294967296 / 65536 / 256).toNat = x.toNat / 72057594037927936 := by omega
  have l := Lib.bitLen_le8' (x / 4294967296 / 65536 / 256) k0 k1
  have g := Lib.len8_of (x / 4294967296 / 65536 / 256) k0 k1
  have g0 : 0 ≤ len8 (x / 4294967296 / 65536 / 256) := by omega
  have g1 : len8 (x / 4294967296 / 65536 / 256) ≤ 8 := by omega
  rw [e] at g
  have s := Lib.bitLen_shift56 x.toNat (by omega) (by omega)
  have G := hide (show (56 : Int) + len8 (x / 4294967296 / 65536 / 256) = Lib.bitLen x.toNat by omega)
  clear g l e s
  go_enter Try.func119, Try.ntmps119
  go_wp2
  go_ret
  exact ⟨ret_int (by have := G.out; omega), rfl⟩

set_option maxHeartbeats 400000 in
set_option maxRecDepth 100000 in
theorem len64_110 (x : Int) (w : World) (h0 : 0 ≤ x) (h1 : x ≤ 18446744073709551615) (t1 : 4294967296 ≤ x) (t2 : 65536 ≤ x / 4294967296) (t3 : x / 4294967296 / 65536 < 256) :
    Calls Try.prog 119 #[.int .u64 x] w fun e w' => e = .returned (.int .i64 (Lib.bitLen x.toNat)) ∧ w = w' := by
  have k0 : 0 ≤ x / 4294967296 / 65536 := by omega
  have k1 : x / 4294967296 / 65536 ≤ 255 := by omega
  have e : (x / 4294967296 / 65536).toNat = x.toNat / 281474976710656 := by omega
  have l := Lib.bitLen_le8' (x / 4294967296 / 65536) k0 k1
  have g := Lib.len8_of (x / 4294967296 / 65536) k0 k1
  have g0 : 0 ≤ len8 (x / 4294967296 / 65536) := by omega
  have g1 : len8 (x / 4294967296 / 65536) ≤ 8 := by omega
  rw [e] at g
  have s := Lib.bitLen_shift48 x.toNat (by omega) (by omega)
  have G := hide (show (48 : Int) + len8 (x / 4294967296 / 65536) = Lib.bitLen x.toNat by omega)
  clear g l e s
  go_enter Try.func119, Try.ntmps119
  go_wp2
  go_ret
  exact ⟨ret_int (by have := G.out; omega), rfl⟩

set_option maxHeartbeats 400000 in
set_option maxRecDepth 100000 in
theorem len64_101 (x : Int) (w : World) (h0 : 0 ≤ x) (h1 : x ≤ 18446744073709551615) (t1 : 4294967296 ≤ x) (t2 : x / 4294967296 < 65536) (t3 : 256 ≤ x / 4294967296) :
    Calls Try.prog 119 #[.int .u64 x] w fun e w' => e = .returned (.int .i64 (Lib.bitLen x.toNat)) ∧ w = w' := by
  have k0 : 0 ≤ x / 4294967296 / 256 := by omega
  have k1 : x / 4294967296 / 256 ≤ 255 := by omega
  have e : (x / 4294967296 / 256).toNat = x.toNat / 1099511627776 := by omega
  have l := Lib.bitLen_le8' (x / 4294967296 / 256) k0 k1
  have g := Lib.len8_of (x / 4294967296 / 256) k0 k1
  have g0 : 0 ≤ len8 (x / 4294967296 / 256) := by omega
  have g1 : len8 (x / 4294967296 / 256) ≤ 8 := by omega
  rw [e] at g
  have s := Lib.bitLen_shift40 x.toNat (by omega) (by omega)
  have G := hide (show (40 : Int) + len8 (x / 4294967296 / 256) = Lib.bitLen x.toNat by omega)
  clear g l e s
  go_enter Try.func119, Try.ntmps119
  go_wp2
  go_ret
  exact ⟨ret_int (by have := G.out; omega), rfl⟩

set_option maxHeartbeats 400000 in
set_option maxRecDepth 100000 in
theorem len64_100 (x : Int) (w : World) (h0 : 0 ≤ x) (h1 : x ≤ 18446744073709551615) (t1 : 4294967296 ≤ x) (t2 : x / 4294967296 < 65536) (t3 : x / 4294967296 < 256) :
    Calls Try.prog 119 #[.int .u64 x] w fun e w' => e = .returned (.int .i64 (Lib.bitLen x.toNat)) ∧ w = w' := by
  have k0 : 0 ≤ x / 4294967296 := by omega
  have k1 : x / 4294967296 ≤ 255 := by omega
  have e : (x / 4294967296).toNat = x.toNat / 4294967296 := by omega
  have l := Lib.bitLen_le8' (x / 4294967296) k0 k1
  have g := Lib.len8_of (x / 4294967296) k0 k1
  have g0 : 0 ≤ len8 (x / 4294967296) := by omega
  have g1 : len8 (x / 4294967296) ≤ 8 := by omega
  rw [e] at g
  have s := Lib.bitLen_shift32 x.toNat (by omega) (by omega)
  have G := hide (show (32 : Int) + len8 (x / 4294967296) = Lib.bitLen x.toNat by omega)
  clear g l e s
  go_enter Try.func119, Try.ntmps119
  go_wp2
  go_ret
  exact ⟨ret_int (by have := G.out; omega), rfl⟩

set_option maxHeartbeats 400000 in
set_option maxRecDepth 100000 in
theorem len64_011 (x : Int) (w : World) (h0 : 0 ≤ x) (h1 : x ≤ 18446744073709551615) (t1 : x < 4294967296) (t2 : 65536 ≤ x) (t3 : 256 ≤ x / 65536) :
    Calls Try.prog 119 #[.int .u64 x] w fun e w' => e = .returned (.int .i64 (Lib.bitLen x.toNat)) ∧ w = w' := by
  have k0 : 0 ≤ x / 65536 / 256 := by omega
  have k1 : x / 65536 / 256 ≤ 255 := by omega
  have e : (x / 65536 / 256).toNat = x.toNat / 16777216 := by omega
  have l := Lib.bitLen_le8' (x / 65536 / 256) k0 k1
  have g := Lib.len8_of (x / 65536 / 256) k0 k1
  have g0 : 0 ≤ len8 (x / 65536 / 256) := by omega
  have g1 : len8 (x / 65536 / 256) ≤ 8 := by omega
  rw [e] at g
  have s := Lib.bitLen_shift24 x.toNat (by omega) (by omega)
  have G := hide (show (24 : Int) + len8 (x / 65536 / 256) = Lib.bitLen x.toNat by omega)
  clear g l e s
  go_enter Try.func119, Try.ntmps119
  go_wp2
  go_ret
  exact ⟨ret_int (by have := G.out; omega), rfl⟩

set_option maxHeartbeats 400000 in
set_option maxRecDepth 100000 in
theorem len64_010 (x : Int) (w : World) (h0 : 0 ≤ x) (h1 : x ≤ 18446744073709551615) (t1 : x < 4294967296) (t2 : 65536 ≤ x) (t3 : x / 65536 < 256) :
    Calls Try.prog 119 #[.int .u64 x] w fun e w' => e = .returned (.int .i64 (Lib.bitLen x.toNat)) ∧ w = w' := by
  have k0 : 0 ≤ x / 65536 := by omega
  have k1 : x / 65536 ≤ 255 := by omega
  have e : (x / 65536).toNat = x.toNat / 65536 := by omega
  have l := Lib.bitLen_le8' (x / 65536) k0 k1
  have g := Lib.len8_of (x / 65536) k0 k1
  have g0 : 0 ≤ len8 (x / 65536) := by omega
  have g1 : len8 (x / 65536) ≤ 8 := by omega
  rw [e] at g
  have s := Lib.bitLen_shift16 x.toNat (by omega) (by omega)
  have G := hide (show (16 : Int) + len8 (x / 65536) = Lib.bitLen x.toNat by omega)
  clear g l e s
  go_enter Try.func119, Try.ntmps119
  go_wp2
  go_ret
  exact ⟨ret_int (by have := G.out; omega), rfl⟩

set_option maxHeartbeats 400000 in
set_option maxRecDepth 100000 in
theorem len64_001 (x : Int) (w : World) (h0 : 0 ≤ x) (h1 : x ≤ 18446744073709551615) (t1 : x < 4294967296) (t2 : x < 65536) (t3 : 256 ≤ x) :
    Calls Try.prog 119 #[.int .u64 x] w fun e w' => e = .returned (.int .i64 (Lib.bitLen x.toNat)) ∧ w = w' := by
  have k0 : 0 ≤ x / 256 := by omega
  have k1 : x / 256 ≤ 255 := by omega
  have e : (x / 256).toNat = x.toNat / 256 := by omega
  have l := Lib.bitLen_le8' (x / 256) k0 k1
  have g := Lib.len8_of (x / 256) k0 k1
  have g0 : 0 ≤ len8 (x / 256) := by omega
  have g1 : len8 (x / 256) ≤ 8 := by omega
  rw [e] at g
  have s := Lib.bitLen_shift8 x.toNat (by omega) (by omega)
  have G := hide (show (8 : Int) + len8 (x / 256) = Lib.bitLen x.toNat by omega)
  clear g l e s
  go_enter Try.func119, Try.ntmps119
  go_wp2
  go_ret
  exact ⟨ret_int (by have := G.out; omega), rfl⟩

set_option maxHeartbeats 400000 in
set_option maxRecDepth 100000 in
theorem len64_000 (x : Int) (w : World) (h0 : 0 ≤ x) (h1 : x ≤ 18446744073709551615) (t1 : x < 4294967296) (t2 : x < 65536) (t3 : x < 256) :
    Calls Try.prog 119 #[.int .u64 x] w fun e w' => e = .returned (.int .i64 (Lib.bitLen x.toNat)) ∧ w = w' := by
  have k0 : 0 ≤ x := by omega
  have k1 : x ≤ 255 := by omega
  have e : (x).toNat = x.toNat / 1 := by omega
  have l := Lib.bitLen_le8' (x) k0 k1
  have g := Lib.len8_of (x) k0 k1
  have g0 : 0 ≤ len8 (x) := by omega
  have g1 : len8 (x) ≤ 8 := by omega
  rw [e] at g
  rw [Nat.div_one] at g
  have G := hide (show (0 : Int) + len8 (x) = Lib.bitLen x.toNat by omega)
  clear g l e
  go_enter Try.func119, Try.ntmps119
  go_wp2
  go_ret
  exact ⟨ret_int (by have := G.out; omega), rfl⟩

theorem len64_any (x : Int) (w : World) (h0 : 0 ≤ x) (h1 : x ≤ 18446744073709551615) :
    Calls Try.prog 119 #[.int .u64 x] w fun e w' => e = .returned (.int .i64 (Lib.bitLen x.toNat)) ∧ w = w' := by
  by_cases t1 : 4294967296 ≤ x
  · by_cases t2 : 65536 ≤ x / 4294967296
    · by_cases t3 : 256 ≤ x / 4294967296 / 65536
      · exact len64_111 x w h0 h1 t1 t2 t3
      · exact len64_110 x w h0 h1 t1 t2 (by omega)
    · by_cases t3 : 256 ≤ x / 4294967296
      · exact len64_101 x w h0 h1 t1 (by omega) t3
      · exact len64_100 x w h0 h1 t1 (by omega) (by omega)
  · by_cases t2 : 65536 ≤ x
    · by_cases t3 : 256 ≤ x / 65536
      · exact len64_011 x w h0 h1 (by omega) t2 t3
      · exact len64_010 x w h0 h1 (by omega) t2 (by omega)
    · by_cases t3 : 256 ≤ x
      · exact len64_001 x w h0 h1 (by omega) (by omega) t3
      · exact len64_000 x w h0 h1 (by omega) (by omega) (by omega)

theorem bitLen_pos (x : Nat) (h : 1 ≤ x) (hx : x < 2 ^ 64) : 1 ≤ Lib.bitLen x := by rw [Lib.bitLen_half x (by omega) hx]; omega
theorem bitLen_leb (f : Nat) (u : Int) (h0 : 0 ≤ u) (h1 : u < 128 ^ (f + 1)) (h2 : u ≤ 18446744073709551615) : max 1 (((Lib.bitLen u.toNat : Nat) + 6) / 7) = (lebN f u).length := by
  induction f generalizing u with
  | zero =>
    have := Lib.bitLen_le u.toNat 7 (by omega) (by simp at h1; omega)
    simp only [lebN, List.length_singleton]
    omega
  | succ f ih =>
    by_cases hlt : u < 128
    · rw [lebN_lt hlt]
      have := Lib.bitLen_le u.toNat 7 (by omega) (by omega)
      simp only [List.length_singleton]
      omega
    · have hl : lebN (f + 1) u = (u % 128 + 128) :: lebN f (u / 128) := by simp [lebN, hlt]
      have e : (128 : Int) ^ (f + 1 + 1) = 128 ^ (f + 1) * 128 := Int.pow_succ _ _
      have h3 := ih (u / 128) (by omega) (by rw [e] at h1; exact Int.ediv_lt_of_lt_mul (by omega) h1) (by omega)
      have h4 := Lib.bitLen_shift 7 u.toNat (by omega) (by omega)
      have e2 : (u / 128).toNat = u.toNat / 2 ^ 7 := by omega
      rw [e2] at h3
      have h5 := bitLen_pos (u.toNat / 2 ^ 7) (by omega) (by omega)
      rw [hl, List.length_cons, ← h3, h4]
      omega

theorem len_any (u : Int) (w : World) (h0 : 0 ≤ u) (h1 : u ≤ 18446744073709551615) :
    Calls Try.prog 80 #[.int .u64 u] w fun e w' => e = .returned (.int .i64 ((lebN 10 u).length : Nat)) ∧ w = w' := by
  have hb := Lib.bitLen_le u.toNat 64 (by omega) (by omega)
  have hl := hide (bitLen_leb 10 u h0 (by omega) h1)
  go_enter Try.func80, Try.ntmps80
  go_wp2_with fail
  refine (len64_any u w h0 h1).mono ?_
  rintro e w1 ⟨rfl, rfl⟩
  generalize Lib.bitLen u.toNat = B at *
  go_wp2
  go_ret
  refine ⟨ret_int ?_, rfl⟩
  rw [← hl.out]
  omega


end Go.Proofs.Ytkfejcffacbngaa.J
