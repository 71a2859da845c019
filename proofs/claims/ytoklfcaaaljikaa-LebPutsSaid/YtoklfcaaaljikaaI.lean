/- How many bytes a number has (leb.Len), and the law LebPuts. -/
import Derived.Test.YtoklfcaaaljikaaE
import Derived.Test.YtoklfcaaaljikaaG
import Derived.Lib.Strings
import Derived.Lib.Slices
import Derived.Lib.Small
import Derived.Lib.Walk
import Derived.Lib.BitFns
namespace Go.Proofs.Ytoklfcaaaljikaa
open Go.RowKit Go.Lib

set_option maxRecDepth 100000 in
theorem fold_tab : (⟨((([0, 1, 2, 2, 3, 3, 3, 3, 4, 4, 4, 4, 4, 4, 4, 4, 5, 5, 5, 5, 5, 5, 5, 5, 5, 5, 5, 5, 5, 5, 5, 5, 6, 6, 6, 6, 6, 6, 6, 6, 6, 6, 6, 6, 6, 6, 6, 6, 6, 6, 6, 6, 6, 6, 6, 6, 6, 6, 6, 6, 6, 6, 6, 6] : List UInt8).append [7, 7, 7, 7, 7, 7, 7, 7, 7, 7, 7, 7, 7, 7, 7, 7, 7, 7, 7, 7, 7, 7, 7, 7, 7, 7, 7, 7, 7, 7, 7, 7, 7, 7, 7, 7, 7, 7, 7, 7, 7, 7, 7, 7, 7, 7, 7, 7, 7, 7, 7, 7, 7, 7, 7, 7, 7, 7, 7, 7, 7, 7, 7, 7]).append ([8, 8, 8, 8, 8, 8, 8, 8, 8, 8, 8, 8, 8, 8, 8, 8, 8, 8, 8, 8, 8, 8, 8, 8, 8, 8, 8, 8, 8, 8, 8, 8, 8, 8, 8, 8, 8, 8, 8, 8, 8, 8, 8, 8, 8, 8, 8, 8, 8, 8, 8, 8, 8, 8, 8, 8, 8, 8, 8, 8, 8, 8, 8, 8].append [8, 8, 8, 8, 8, 8, 8, 8, 8, 8, 8, 8, 8, 8, 8, 8, 8, 8, 8, 8, 8, 8, 8, 8, 8, 8, 8, 8, 8, 8, 8, 8, 8, 8, 8, 8, 8, 8, 8, 8, 8, 8, 8, 8, 8, 8, 8, 8, 8, 8, 8, 8, 8, 8, 8, 8, 8, 8, 8, 8, 8, 8, 8, 8])).toArray⟩ : ByteArray) = Lib.len8tab := by kernel_rfl
attribute [local go_sem high] fold_tab

set_option maxHeartbeats 400000 in
set_option maxRecDepth 100000 in
theorem len64_111 (x : Int) (w : World) (h0 : 0 ≤ x) (h1 : x ≤ 18446744073709551615) (t1 : 4294967296 ≤ x) (t2 : 65536 ≤ x / 4294967296) (t3 : 256 ≤ x / 4294967296 / 65536) :
    Calls Try.prog 25 #[.int .u64 x] w fun e w' => e = .returned (.int .i64 (Lib.bitLen x.toNat)) ∧ w = w' := by
  have k0 : 0 ≤ x / 4294967296 / 65536 / 256 := by omega
  have k1 : x / 4294967296 / 65536 / 256 ≤ 255 := by omega
  have e : (x / 4294967296 / 65536 / 256).toNat = x.toNat / 72057594037927936 := by omega
  have l := Lib.bitLen_le8' (x / 4294967296 / 65536 / 256) k0 k1
  have g := Lib.len8_of (x / 4294967296 / 65536 / 256) k0 k1
  have g0 : 0 ≤ len8 (x / 4294967296 / 65536 / 256) := by omega
  have g1 : len8 (x / 4294967296 / 65536 / 256) ≤ 8 := by omega
  rw [e] at g
  have s := Lib.bitLen_shift56 x.toNat (by omega) (by omega)
  have G := hide (show (56 : Int) + len8 (x / 4294967296 / 65536 / 256) = Lib.bitLen x.toNat by omega)
  clear g l e s
  go_enter Try.func25, Try.ntmps25
  go_wp2
  go_ret
  exact ⟨ret_int (by have := G.out; omega), rfl⟩

set_option maxHeartbeats 400000 in
set_option maxRecDepth 100000 in
theorem len64_110 (x : Int) (w : World) (h0 : 0 ≤ x) (h1 : x ≤ 18446744073709551615) (t1 : 4294967296 ≤ x) (t2 : 65536 ≤ x / 4294967296) (t3 : x / 4294967296 / 65536 < 256) :
    Calls Try.prog 25 #[.int .u64 x] w fun e w' => e = .returned (.int .i64 (Lib.bitLen x.toNat)) ∧ w = w' := by
  have k0 : 0 ≤ x / 4294967296 / 65536 := by omega
  have k1 : x / 4294967296 / 65536 ≤ 255 := by omega
  have e : (x / 4294967296 / 65536).toNat = x.toNat / 281474976710656 := by omega
  have l := Lib.bitLen_le8' (x / 4294967296 / 65536) k0 k1
  have g := Lib.len8_of (x / 4294967296 / 65536) k0 k1
  have g0 : 0 ≤ len8 (x / 4294967296 / 65536) := by omega
  have g1 : len8 (x / 4294967296 / 65536) ≤ 8 := by omega
  rw [e] at g
  have s := Lib.bitLen_shift48 x.toNat (by omega) (by omega)
  have G := hide (show (48 : Int) + len8 (x / 4294967296 / 65536) = Lib.bitLen x.toNat by omega)
  clear g l e s
  go_enter Try.func25, Try.ntmps25
  go_wp2
  go_ret
  exact ⟨ret_int (by have := G.out; omega), rfl⟩

set_option maxHeartbeats 400000 in
set_option maxRecDepth 100000 in
theorem len64_101 (x : Int) (w : World) (h0 : 0 ≤ x) (h1 : x ≤ 18446744073709551615) (t1 : 4294967296 ≤ x) (t2 : x / 4294967296 < 65536) (t3 : 256 ≤ x / 4294967296) :
    Calls Try.prog 25 #[.int .u64 x] w fun e w' => e = .returned (.int .i64 (Lib.bitLen x.toNat)) ∧ w = w' := by
  have k0 : 0 ≤ x / 4294967296 / 256 := by omega
  have k1 : x / 4294967296 / 256 ≤ 255 := by omega
  have e : (x / 4294967296 / 256).toNat = x.toNat / 1099511627776 := by omega
  have l := Lib.bitLen_le8' (x / 4294967296 / 256) k0 k1
  have g := Lib.len8_of (x / 4294967296 / 256) k0 k1
  have g0 : 0 ≤ len8 (x / 4294967296 / 256) := by omega
  have g1 : len8 (x / 4294967296 / 256) ≤ 8 := by omega
  rw [e] at g
  have s := Lib.bitLen_shift40 x.toNat (by omega) (by omega)
  have G := hide (show (40 : Int) + len8 (x / 4294967296 / 256) = Lib.bitLen x.toNat by omega)
  clear g l e s
  go_enter Try.func25, Try.ntmps25
  go_wp2
  go_ret
  exact ⟨ret_int (by have := G.out; omega), rfl⟩

set_option maxHeartbeats 400000 in
set_option maxRecDepth 100000 in
theorem len64_100 (x : Int) (w : World) (h0 : 0 ≤ x) (h1 : x ≤ 18446744073709551615) (t1 : 4294967296 ≤ x) (t2 : x / 4294967296 < 65536) (t3 : x / 4294967296 < 256) :
    Calls Try.prog 25 #[.int .u64 x] w fun e w' => e = .returned (.int .i64 (Lib.bitLen x.toNat)) ∧ w = w' := by
  have k0 : 0 ≤ x / 4294967296 := by omega
  have k1 : x / 4294967296 ≤ 255 := by omega
  have e : (x / 4294967296).toNat = x.toNat / 4294967296 := by omega
  have l := Lib.bitLen_le8' (x / 4294967296) k0 k1
  have g := Lib.len8_of (x / 4294967296) k0 k1
  have g0 : 0 ≤ len8 (x / 4294967296) := by omega
  have g1 : len8 (x / 4294967296) ≤ 8 := by omega
  rw [e] at g
  have s := Lib.bitLen_shift32 x.toNat (by omega) (by omega)
  have G := hide (show (32 : Int) + len8 (x / 4294967296) = Lib.bitLen x.toNat by omega)
  clear g l e s
  go_enter Try.func25, Try.ntmps25
  go_wp2
  go_ret
  exact ⟨ret_int (by have := G.out; omega), rfl⟩

set_option maxHeartbeats 400000 in
set_option maxRecDepth 100000 in
theorem len64_011 (x : Int) (w : World) (h0 : 0 ≤ x) (h1 : x ≤ 18446744073709551615) (t1 : x < 4294967296) (t2 : 65536 ≤ x) (t3 : 256 ≤ x / 65536) :
    Calls Try.prog 25 #[.int .u64 x] w fun e w' => e = .returned (.int .i64 (Lib.bitLen x.toNat)) ∧ w = w' := by
  have k0 : 0 ≤ x / 65536 / 256 := by omega
  have k1 : x / 65536 / 256 ≤ 255 := by omega
  have e : (x / 65536 / 256).toNat = x.toNat / 16777216 := by omega
  have l := Lib.bitLen_le8' (x / 65536 / 256) k0 k1
  have g := Lib.len8_of (x / 65536 / 256) k0 k1
  have g0 : 0 ≤ len8 (x / 65536 / 256) := by omega
  have g1 : len8 (x / 65536 / 256) ≤ 8 := by omega
  rw [e] at g
  have s := Lib.bitLen_shift24 x.toNat (by omega) (by omega)
  have G := hide (show (24 : Int) + len8 (x / 65536 / 256) = Lib.bitLen x.toNat by omega)
  clear g l e s
  go_enter Try.func25, Try.ntmps25
  go_wp2
  go_ret
  exact ⟨ret_int (by have := G.out; omega), rfl⟩

set_option maxHeartbeats 400000 in
set_option maxRecDepth 100000 in
theorem len64_010 (x : Int) (w : World) (h0 : 0 ≤ x) (h1 : x ≤ 18446744073709551615) (t1 : x < 4294967296) (t2 : 65536 ≤ x) (t3 : x / 65536 < 256) :
    Calls Try.prog 25 #[.int .u64 x] w fun e w' => e = .returned (.int .i64 (Lib.bitLen x.toNat)) ∧ w = w' := by
  have k0 : 0 ≤ x / 65536 := by omega
  have k1 : x / 65536 ≤ 255 := by omega
  have e : (x / 65536).toNat = x.toNat / 65536 := by omega
  have l := Lib.bitLen_le8' (x / 65536) k0 k1
  have g := Lib.len8_of (x / 65536) k0 k1
  have g0 : 0 ≤ len8 (x / 65536) := by omega
  have g1 : len8 (x / 65536) ≤ 8 := by omega
  rw [e] at g
  have s := Lib.bitLen_shift16 x.toNat (by omega) (by omega)
  have G := hide (show (16 : Int) + len8 (x / 65536) = Lib.bitLen x.toNat by omega)
  clear g l e s
  go_enter Try.func25, Try.ntmps25
  go_wp2
  go_ret
  exact ⟨ret_int (by have := G.out; omega), rfl⟩

set_option maxHeartbeats 400000 in
set_option maxRecDepth 100000 in
theorem len64_001 (x : Int) (w : World) (h0 : 0 ≤ x) (h1 : x ≤ 18446744073709551615) (t1 : x < 4294967296) (t2 : x < 65536) (t3 : 256 ≤ x) :
    Calls Try.prog 25 #[.int .u64 x] w fun e w' => e = .returned (.int .i64 (Lib.bitLen x.toNat)) ∧ w = w' := by
  have k0 : 0 ≤ x / 256 := by omega
  have k1 : x / 256 ≤ 255 := by omega
  have e : (x / 256).toNat = x.toNat / 256 := by omega
  have l := Lib.bitLen_le8' (x / 256) k0 k1
  have g := Lib.len8_of (x / 256) k0 k1
  have g0 : 0 ≤ len8 (x / 256) := by omega
  have g1 : len8 (x / 256) ≤ 8 := by omega
  rw [e] at g
  have s := Lib.bitLen_shift8 x.toNat (by omega) (by omega)
  have G := hide (show (8 : Int) + len8 (x / 256) = Lib.bitLen x.toNat by omega)
  clear g l e s
  go_enter Try.func25, Try.ntmps25
  go_wp2
  go_ret
  exact ⟨ret_int (by have := G.out; omega), rfl⟩

set_option maxHeartbeats 400000 in
set_option maxRecDepth 100000 in
theorem len64_000 (x : Int) (w : World) (h0 : 0 ≤ x) (h1 : x ≤ 18446744073709551615) (t1 : x < 4294967296) (t2 : x < 65536) (t3 : x < 256) :
    Calls Try.prog 25 #[.int .u64 x] w fun e w' => e = .returned (.int .i64 (Lib.bitLen x.toNat)) ∧ w = w' := by
  have k0 : 0 ≤ x := by omega
  have k1 : x ≤ 255 := by omega
  have e : (x).toNat = x.toNat / 1 := by omega
  have l := Lib.bitLen_le8' (x) k0 k1
  have g := Lib.len8_of (x) k0 k1
  have g0 : 0 ≤ len8 (x) := by omega
  have g1 : len8 (x) ≤ 8 := by omega
  rw [e] at g
  rw [Nat.div_one] at g
  have G := hide (show (0 : Int) + len8 (x) = Lib.bitLen x.toNat by omega)
  clear g l e
  go_enter Try.func25, Try.ntmps25
  go_wp2
  go_ret
  exact ⟨ret_int (by have := G.out; omega), rfl⟩

theorem len64_any (x : Int) (w : World) (h0 : 0 ≤ x) (h1 : x ≤ 18446744073709551615) :
    Calls Try.prog 25 #[.int .u64 x] w fun e w' => e = .returned (.int .i64 (Lib.bitLen x.toNat)) ∧ w = w' := by
  by_cases t1 : 4294967296 ≤ x
  · by_cases t2 : 65536 ≤ x / 4294967296
    · by_cases t3 : 256 ≤ x / 4294967296 / 65536
      · exact len64_111 x w h0 h1 t1 t2 t3
      · exact len64_110 x w h0 h1 t1 t2 (by omega)
    · by_cases t3 : 256 ≤ x / 4294967296
      · exact len64_101 x w h0 h1 t1 (by omega) t3
      · exact len64_100 x w h0 h1 t1 (by omega) (by omega)
  · by_cases t2 : 65536 ≤ x
    · by_cases t3 : 256 ≤ x / 65536
      · exact len64_011 x w h0 h1 (by omega) t2 t3
      · exact len64_010 x w h0 h1 (by omega) t2 (by omega)
    · by_cases t3 : 256 ≤ x
      · exact len64_001 x w h0 h1 (by omega) (by omega) t3
      · exact len64_000 x w h0 h1 (by omega) (by omega) (by omega)

theorem bitLen_pos (x : Nat) (h : 1 ≤ x) (hx : x < 2 ^ 64) : 1 ≤ Lib.bitLen x := by rw [Lib.bitLen_half x (by omega) hx]; omega
theorem bitLen_leb (f : Nat) (u : Int) (h0 : 0 ≤ u) (h1 : u < 128 ^ (f + 1)) (h2 : u ≤ 18446744073709551615) : max 1 (((Lib.bitLen u.toNat : Nat) + 6) / 7) = (lebB f u).length := by
  induction f generalizing u with
  | zero =>
    have := Lib.bitLen_le u.toNat 7 (by omega) (by simp at h1; omega)
    simp only [lebB, List.length_singleton]
    omega
  | succ f ih =>
    by_cases hlt : u < 128
    · rw [lebB_low _ _ hlt]
      have := Lib.bitLen_le u.toNat 7 (by omega) (by omega)
      simp only [List.length_singleton]
      omega
    · have hl : lebB (f + 1) u = (u % 128 + 128) :: lebB f (u / 128) := by simp [lebB, hlt]
      have e : (128 : Int) ^ (f + 1 + 1) = 128 ^ (f + 1) * 128 := Int.pow_succ _ _
      have h3 := ih (u / 128) (by omega) (by rw [e] at h1; exact Int.ediv_lt_of_lt_mul (by omega) h1) (by omega)
      have h4 := Lib.bitLen_shift 7 u.toNat (by omega) (by omega)
      have e2 : (u / 128).toNat = u.toNat / 2 ^ 7 := by omega
      rw [e2] at h3
      have h5 := bitLen_pos (u.toNat / 2 ^ 7) (by omega) (by omega)
      rw [hl, List.length_cons, ← h3, h4]
      omega

theorem len_any (u : Int) (w : World) (h0 : 0 ≤ u) (h1 : u ≤ 18446744073709551615) :
    Calls Try.prog 12 #[.int .u64 u] w fun e w' => e = .returned (.int .i64 ((lebB 9 u).length : Nat)) ∧ w = w' := by
  have hb := Lib.bitLen_le u.toNat 64 (by omega) (by omega)
  have hl := hide (bitLen_leb 9 u h0 (by omega) h1)
  go_enter Try.func12, Try.ntmps12
  go_wp2_with fail
  refine (len64_any u w h0 h1).mono ?_
  rintro e w1 ⟨rfl, rfl⟩
  generalize Lib.bitLen u.toNat = B at *
  go_wp2
  go_ret
  refine ⟨ret_int ?_, rfl⟩
  rw [← hl.out]
  omega

theorem lebGet_there (xs ys : List Int) (u : Int) (h0 : 0 ≤ u) (h1 : u ≤ 18446744073709551615) : lebGet (xs ++ lebB 9 u ++ ys) xs.length = (u, ((xs.length + (lebB 9 u).length : Nat) : Int), 0) := by
  unfold lebGet
  rw [if_neg (by simp; omega), List.append_assoc]
  simp only [Int.toNat_natCast, List.drop_left]
  rw [lebG_tail 9 u 0 0 xs.length ys (by omega) h0 (by omega) (by omega) (by omega) (by simp; omega) (by omega)]
  simp

set_option maxHeartbeats 1600000 in
theorem puts_law (A0 A2 : Option Addr) (n0 c0 n2 c2 : Nat) (xs ys : List Int) (u : Int) (w : World) (hr0 : Reads w w.heap.size 1 A0 n0 (xs.map (Value.int .u8))) (hr2 : Reads w w.heap.size 1 A2 n2 (ys.map (Value.int .u8)))
    (hx : ∀ x ∈ xs, 0 ≤ x ∧ x ≤ 255) (hy : ∀ x ∈ ys, 0 ≤ x ∧ x ≤ 255) (h0 : 0 ≤ u) (h1 : u ≤ 18446744073709551615) (hn0 : n0 ≤ maxLen) (hn2 : n2 ≤ maxLen) :
    Calls Try.prog 3 #[.slice A0 n0 c0, .int .u64 u, .slice A2 n2 c2] w fun e w' => e = .returned (.bool true) ∧ Below w.heap.size w w' := by
  unfold maxLen at hn0 hn2
  by_cases hbig : n0 > 100 ∨ n2 > 100
  · go_enter Try.func3, Try.ntmps3
    go_wp2_with fail
    refine (awake2 w).mono ?_
    rintro e w1 ⟨rfl, hb⟩
    rcases hbig with hbig | hbig
    · go_wp2
      go_ret
      exact ⟨rfl, hb⟩
    · by_cases h100 : n0 > 100
      · go_wp2
        go_ret
        exact ⟨rfl, hb⟩
      · go_wp2
        go_ret
        exact ⟨rfl, hb⟩
  · obtain ⟨i0, hi, hz0, hz1, hz2⟩ := info_parts Try.infou8
    have hl10 := lebB_length 9 u
    have hrg := lebB_rng 9 u h0 (by omega)
    have hk0 : n0 ≤ 100 := by omega
    have hk2 : n2 ≤ 100 := by omega
    have hlx : xs.length = n0 := by simpa using hr0.1
    go_enter Try.func3, Try.ntmps3
    go_wp2_with fail
    refine (awake2 w).mono ?_
    rintro e w1 ⟨rfl, hb⟩
    have ha1 := (hr0.below hb).more hb.size
    go_wp2_with fail
    refine (put_any A0 n0 c0 xs u w1 ha1 (by omega) h0 h1).mono ?_
    rintro e w2 ⟨v2, rfl, hown2, hb2⟩
    obtain ⟨B2, d2, rfl, hd2, hm2, hR2⟩ := own_reads hown2
    have hB2 := bchain hb hb2
    go_wp2_with fail
    refine (rbytes_any u w2 h0 h1).mono ?_
    rintro e w3 ⟨v3, rfl, hown3, hb3⟩
    obtain ⟨B3, d3, rfl, hd3, hm3, hR3⟩ := own_reads hown3
    have hB3 := bchain hB2 hb3
    have q1 := conv_reads (P := Try.prog) 22 5 9 Try.underlying22 Try.underlying5 Try.underlying9 (hR2.below hb3) d2
    have q2 := conv_reads (P := Try.prog) 22 5 9 Try.underlying22 Try.underlying5 Try.underlying9 (hr0.below hB3) c0
    have q3 := conv_reads (P := Try.prog) 22 5 9 Try.underlying22 Try.underlying5 Try.underlying9 hR3 d3
    rw [strOfNums_append] at q1
    have hs1 : (strOfNums xs).size ≤ 100 := by rw [strOfNums_size]; omega
    have hs2 : (strOfNums (lebB 9 u)).size ≤ 10 := by rw [strOfNums_size]; omega
    clear hown2 hown3
    go_wp2_with fail
    refine (len_any u w3 h0 h1).mono ?_
    rintro e w3 ⟨rfl, rfl⟩
    have hone : ∀ zs : List Int, ∀ u ∈ zs.map (Value.int .u8), u.oneCell' = true := by
      intro zs u hu
      obtain ⟨x, _, rfl⟩ := List.mem_map.1 hu
      rfl
    have hown0 : (w3.alloc (Obj.cells #[] 5)).ownsRow w3.heap.size 5 1 (.slice (some ⟨w3.heap.size, 0, none⟩) 0 0) 0 [] := World.ownsRow_made w3 #[] 0 (Nat.le_refl _) (Nat.zero_le _) rfl
    have hb0 : Below w3.heap.size w3 (w3.alloc (Obj.cells #[] 5)) := (Below.refl _ _).alloc (Nat.le_refl _) _
    have ra := (hR2.below hb3).below (hb0.mono hb3.size)
    have rb := ((hr2.below hB3).below (hb0.mono hB3.size))
    go_wp2_with (first
      | (at_builtin; (refine wpList_append_any _ rfl (.tmp 43) (.tmp 44) _ rfl w3.heap.size 5 i0 _ 1 1 Try.underlying22 hi hz0 hz1 hz2 rfl (by omega) _ 0 [] rfl hown0 w2.heap.size B2 _ d2 _ rfl ra (hone _) (by simp only [maxLen]; omega) (by omega) hb0.size ?_); intro v4 w4 hown4 hg4 hat4; have hb4 := hb0.grown hg4 hb0.size (fun k hk => (hown0.lt k hk).1))
      | (at_builtin; (refine wpList_append_any _ rfl (.tmp 45) (.tmp 46) _ rfl w3.heap.size 5 i0 _ 1 1 Try.underlying22 hi hz0 hz1 hz2 rfl (by omega) v4 _ _ rfl hown4 w.heap.size A2 n2 c2 _ rfl (hr2.below (hB3.trans (hb4.mono hB3.size))) (hone _) (by simp only [maxLen]; omega) (by omega) hb4.size ?_); intro v5 w5 hown5 hg5 hat5; have hb5 := hb4.grown hg5 hb4.size (fun k hk => (hown4.lt k hk).1)))
    simp only [Nat.zero_add, List.nil_append, ← List.map_append] at hown5
    obtain ⟨B5, d5, rfl, hd5, hm5, hR5⟩ := own_reads hown5
    have hg := lebGet_there xs ys u h0 h1
    rw [hlx] at hg
    have hin : ∀ x ∈ xs ++ lebB 9 u ++ ys, 0 ≤ x ∧ x ≤ 255 := by
      intro x hx'
      simp only [List.mem_append] at hx'
      rcases hx' with (h | h) | h
      · exact hx x h
      · exact hrg x h
      · exact hy x h
    refine (get_any B5 _ d5 (xs ++ lebB 9 u ++ ys) n0 w5 hR5 hin (by omega) hd5 hm5 (by omega) (by omega)).mono ?_
    rintro e w5 ⟨rfl, rfl⟩
    rw [hg]
    unfold tup3
    clear hg q1 q2 q3
    go_wp2
    go_ret
    exact ⟨rfl, hB3.trans (hb5.mono hB3.size)⟩

end Go.Proofs.Ytoklfcaaaljikaa
