/- Contracts of the document's own Put and of both Gets of layer 12. -/
import Derived.Test.YtoklfcaaaljikaaJ
namespace Go.Proofs.Ytoklfcaaaljikaa
open Go.RowKit Go.Lib

set_option maxHeartbeats 800000 in
theorem rwbytes_any (N : Nat) (u : Int) (w : World) (h8 : N ≤ 8) (h0 : 0 ≤ u) (hu : u ≤ 18446744073709551615) :
    Calls Try.prog 26 #[.int .i64 N, .int .u64 u] w fun e w' => ∃ v, e = .returned (.tuple #[v, .bool (u / 256 ^ N == 0)]) ∧ w'.ownsRow w.heap.size 5 1 v N ((wB N u).map (Value.int .u8)) ∧ Below w.heap.size w w' := by
  go_enter Try.func26, Try.ntmps26
  go_wp2
  have hown0 : (w.alloc (Obj.cells #[] 5)).ownsRow w.heap.size 5 1 (.slice (some ⟨w.heap.size, 0, none⟩) 0 0) 0 ((wB 0 u).map (Value.int .u8)) :=
    World.ownsRow_made w #[] 0 (Nat.le_refl _) (Nat.zero_le _) rfl
  have hb0 : Below w.heap.size w (w.alloc (Obj.cells #[] 5)) := (Below.refl _ _).alloc (Nat.le_refl _) _
  go_loopw [6, 1, 7] (fun v x i wr => ∃ (k : Nat) (y : Int), i = .int .i64 k ∧ x = .int .u64 y ∧ k ≤ N ∧ 0 ≤ y ∧ y ≤ 18446744073709551615 ∧ Hid (y = u / 256 ^ k) ∧ wr.ownsRow w.heap.size 5 1 v k ((wB k u).map (Value.int .u8)) ∧ Below w.heap.size w wr) (fun _ _ i _ => N - (intOf i).toNat)
  case atStart => exact ⟨0, u, rfl, rfl, by omega, h0, hu, by simp [Hid], hown0, hb0⟩
  case round =>
    obtain ⟨k, y, rfl, rfl, hk, hy0, hy1, HY, hown, hb⟩ := hrel
    clear hown0 hb0
    by_cases hlt : k < N
    · have hs := hide (wB_snoc k u)
      go_wp2_with (at_builtin; go_must (refine wpList_append_one rfl (.tmp 14) (.tmp 18) _ rfl 5 _ 1 Try.underlying22 Try.infou8 rfl (by omega) hown rfl rfl rfl (by omega) hb.size ?_); intro v3 w3 hown3 hb3)
      go_roundw
      case rel =>
        refine ⟨k + 1, y / 256, by go_num, rfl, by omega, by omega, by omega, hide (by rw [HY.out, ediv3 _ _ _ (Int.pow_nonneg (by decide)), Int.pow_succ]), ?_, hb.trans hb3⟩
        rw [hs.out, List.map_append, ← HY.out]
        exact hown3
      case measure => simp [intOf]; omega
    · obtain rfl : k = N := by omega
      go_wp2
      go_ret2
      refine ⟨_, ?_, hown, hb⟩
      rw [← HY.out]
      rfl

theorem rwput_arg (A : Option Addr) (n0 c0 : Nat) (n u : Int) (w : World) (h : n < 1 ∨ n > 8) :
    Calls Try.prog 21 #[.slice A n0 c0, .int .i64 n, .int .u64 u] w fun e w' => e = .returned (.tuple #[.slice none 0 0, .int .i64 11]) ∧ w = w' := by
  rcases h with h | h
  · go_enter Try.func21, Try.ntmps21
    go_wp2
    go_ret2
    exact ⟨rfl, rfl⟩
  · go_enter Try.func21, Try.ntmps21
    go_wp2
    go_ret2
    exact ⟨rfl, rfl⟩

theorem rwput_val (A : Option Addr) (n0 c0 : Nat) (N : Nat) (u : Int) (w : World) (h1 : 1 ≤ N) (h8 : N ≤ 8) (h0 : 0 ≤ u) (hu : u ≤ 18446744073709551615) (h : u / 256 ^ N ≠ 0) :
    Calls Try.prog 21 #[.slice A n0 c0, .int .i64 N, .int .u64 u] w fun e w' => e = .returned (.tuple #[.slice none 0 0, .int .i64 7]) ∧ Below w.heap.size w w' := by
  have hb : (u / 256 ^ N == 0) = false := by simpa using h
  clear h
  go_enter Try.func21, Try.ntmps21
  go_wp2_with fail
  refine (rwbytes_any N u w h8 h0 hu).mono ?_
  rintro e w1 ⟨v1, rfl, hown1, hb1⟩
  rw [hb]
  go_wp2
  go_ret2
  exact ⟨rfl, hb1⟩

set_option maxHeartbeats 800000 in
theorem rwput_ok (A : Option Addr) (n0 c0 : Nat) (xs : List Int) (N : Nat) (u : Int) (w : World) (hr : Reads w w.heap.size 1 A n0 (xs.map (Value.int .u8))) (hn : n0 ≤ 100000) (h1 : 1 ≤ N) (h8 : N ≤ 8) (h0 : 0 ≤ u) (hu : u ≤ 18446744073709551615) (h : u / 256 ^ N = 0) :
    Calls Try.prog 21 #[.slice A n0 c0, .int .i64 N, .int .u64 u] w fun e w' => ∃ v, e = .returned (.tuple #[v, .int .i64 0]) ∧ w'.ownsRow w.heap.size 5 1 v (n0 + N) ((xs ++ wB N u).map (Value.int .u8)) ∧ Below w.heap.size w w' := by
  obtain ⟨i0, hi, hz0, hz1, hz2⟩ := info_parts Try.infou8
  have hone : ∀ zs : List Int, ∀ u ∈ zs.map (Value.int .u8), u.oneCell' = true := by
    intro zs u hu
    obtain ⟨x, _, rfl⟩ := List.mem_map.1 hu
    rfl
  have hb : (u / 256 ^ N == 0) = true := by simpa using h
  clear h
  go_enter Try.func21, Try.ntmps21
  go_wp2_with fail
  refine (rwbytes_any N u w h8 h0 hu).mono ?_
  rintro e w1 ⟨v1, rfl, hown1, hb1⟩
  rw [hb]
  obtain ⟨B1, d1, rfl, hd1, hm1, hR1⟩ := own_reads hown1
  have hown0 : (w1.alloc (Obj.cells #[] 5)).ownsRow w1.heap.size 5 1 (.slice (some ⟨w1.heap.size, 0, none⟩) 0 0) 0 [] := World.ownsRow_made w1 #[] 0 (Nat.le_refl _) (Nat.zero_le _) rfl
  have hb0 : Below w1.heap.size w1 (w1.alloc (Obj.cells #[] 5)) := (Below.refl _ _).alloc (Nat.le_refl _) _
  have ra := (hr.below hb1).below (hb0.mono hb1.size)
  go_wp2_with (first
      | (at_builtin; (refine wpList_append_any _ rfl (.tmp 24) (.tmp 25) _ rfl w1.heap.size 5 i0 _ 1 1 Try.underlying22 hi hz0 hz1 hz2 rfl (by omega) _ 0 [] rfl hown0 w.heap.size A n0 c0 _ rfl ra (hone _) (by simp only [maxLen]; omega) (by omega) hb0.size ?_); intro v4 w4 hown4 hg4 hat4; have hb4 := hb0.grown hg4 hb0.size (fun k hk => (hown0.lt k hk).1))
      | (at_builtin; (refine wpList_append_any _ rfl (.tmp 26) (.tmp 27) _ rfl w1.heap.size 5 i0 _ 1 1 Try.underlying22 hi hz0 hz1 hz2 rfl (by omega) v4 _ _ rfl hown4 w1.heap.size B1 N d1 _ rfl (hR1.below hb4) (hone _) (by simp only [maxLen]; omega) (by omega) hb4.size ?_); intro v5 w5 hown5 hg5 hat5; have hb5 := hb4.grown hg5 hb4.size (fun k hk => (hown4.lt k hk).1)))
  go_ret2
  simp only [Nat.zero_add, List.nil_append, ← List.map_append] at hown5
  refine ⟨v5, rfl, ?_, hb1.trans (hb5.mono hb1.size)⟩
  exact own_mono hown5 hb1.size


/-- What Get tells. -/
def wireGet (xs : List Int) (a n : Int) : Int × Int × Int :=
  if n < 1 ∨ n > 8 ∨ a < 0 ∨ a > xs.length then (0, 0, 11) else if xs.length - a < n then (0, 0, 14) else (wV ((xs.drop a.toNat).take n.toNat), a + n, 0)
def wtup3 (r : Int × Int × Int) : Value := .tuple #[.int .u64 r.1, .int .i64 r.2.1, .int .i64 r.2.2]

theorem worval (k : Nat) (hk : k < 8) (y x : Int) (hy0 : 0 ≤ y) (hy1 : y < 256 ^ k) (hx0 : 0 ≤ x) (hx1 : x ≤ 255) :
    bits BinOp.or IntKind.u64 y (IntKind.u64.wrap (x * 2 ^ (8 * k))) = y + x * 256 ^ k ∧ 0 ≤ y + x * 256 ^ k ∧ y + x * 256 ^ k < 256 ^ (k + 1) ∧ y + x * 256 ^ k ≤ 18446744073709551615 := by
  rcases (by omega : k = 0 ∨ k = 1 ∨ k = 2 ∨ k = 3 ∨ k = 4 ∨ k = 5 ∨ k = 6 ∨ k = 7) with rfl | rfl | rfl | rfl | rfl | rfl | rfl | rfl <;>
    simp only [Nat.reduceMul, Int.reducePow, Nat.reduceAdd] at * <;>
    refine ⟨?_, by omega, by omega, by omega⟩ <;> rw [IntKind.wrap_u64, Int.emod_eq_of_lt (by omega) (by omega)]
  · exact bits_join_low .u64 64 (by decide) wraps_u64 0 _ _ (by omega) (by omega) (by omega) (by omega) (by omega) (by omega)
  · exact bits_join_low .u64 64 (by decide) wraps_u64 8 _ _ (by omega) (by omega) (by omega) (by omega) (by omega) (by omega)
  · exact bits_join_low .u64 64 (by decide) wraps_u64 16 _ _ (by omega) (by omega) (by omega) (by omega) (by omega) (by omega)
  · exact bits_join_low .u64 64 (by decide) wraps_u64 24 _ _ (by omega) (by omega) (by omega) (by omega) (by omega) (by omega)
  · exact bits_join_low .u64 64 (by decide) wraps_u64 32 _ _ (by omega) (by omega) (by omega) (by omega) (by omega) (by omega)
  · exact bits_join_low .u64 64 (by decide) wraps_u64 40 _ _ (by omega) (by omega) (by omega) (by omega) (by omega) (by omega)
  · exact bits_join_low .u64 64 (by decide) wraps_u64 48 _ _ (by omega) (by omega) (by omega) (by omega) (by omega) (by omega)
  · exact bits_join_low .u64 64 (by decide) wraps_u64 56 _ _ (by omega) (by omega) (by omega) (by omega) (by omega) (by omega)

theorem take_one (l : List Int) (k : Nat) (h : k < l.length) : l.take (k + 1) = l.take k ++ [l.getD k 0] := by
  rw [List.take_succ_eq_append_getElem h, List.getD, List.getElem?_eq_getElem h]; rfl

set_option maxHeartbeats 1600000 in
theorem wget_any (A : Option Addr) (m c : Nat) (xs : List Int) (a n : Int) (w : World) (hr : Reads w w.heap.size 1 A m (xs.map (Value.int .u8))) (hx : ∀ x ∈ xs, 0 ≤ x ∧ x ≤ 255) (hm : m ≤ 100000) (hmc : m ≤ c) (hcm : c ≤ maxLen)
    (ha0 : -9223372036854775808 ≤ a) (ha1 : a ≤ 9223372036854775807) :
    Calls Try.prog 22 #[.slice A m c, .int .i64 a, .int .i64 n] w fun e w' => e = .returned (wtup3 (wireGet xs a n)) ∧ w = w' := by
  have hlen : xs.length = m := by simpa using hr.1
  unfold maxLen at hcm
  by_cases hbad : n < 1 ∨ n > 8 ∨ a < 0 ∨ a > m
  · have hs : wireGet xs a n = (0, 0, 11) := by unfold wireGet; rw [if_pos (by omega)]
    rw [hs]
    by_cases h1 : n < 1
    · go_enter Try.func22, Try.ntmps22
      go_wp2
      go_ret3
      exact ⟨rfl, rfl⟩
    · by_cases h2 : n > 8
      · go_enter Try.func22, Try.ntmps22
        go_wp2
        go_ret3
        exact ⟨rfl, rfl⟩
      · by_cases h3 : a < 0
        · go_enter Try.func22, Try.ntmps22
          go_wp2
          go_ret3
          exact ⟨rfl, rfl⟩
        · have h4 : a > m := by omega
          go_enter Try.func22, Try.ntmps22
          go_wp2
          go_ret3
          exact ⟨rfl, rfl⟩
  · obtain ⟨N, rfl⟩ : ∃ N : Nat, n = N := ⟨n.toNat, by omega⟩
    obtain ⟨k0, rfl⟩ : ∃ k0 : Nat, a = k0 := ⟨a.toNat, by omega⟩
    by_cases hsh : (m : Int) - k0 < N
    · have hs : wireGet xs k0 N = (0, 0, 14) := by unfold wireGet; rw [if_neg (by omega), if_pos (by omega)]
      rw [hs]
      go_enter Try.func22, Try.ntmps22
      go_wp2
      go_ret3
      exact ⟨rfl, rfl⟩
    · have hs : wireGet xs k0 N = (wV ((xs.drop k0).take N), ((k0 + N : Nat) : Int), 0) := by unfold wireGet; rw [if_neg (by omega), if_neg (by omega)]; simp
      rw [hs]
      have hkN : k0 + N ≤ m := by omega
      obtain ⟨b, off, rfl, hb, hcell⟩ := hr.cells_ (by omega)
      have hcne : ¬ (c = k0) := by omega
      have hln : ((xs.drop k0).take N).length = N := by rw [List.length_take, List.length_drop]; omega
      have hxx : ∀ x ∈ (xs.drop k0).take N, 0 ≤ x ∧ x ≤ 255 := fun x h => hx x (List.mem_of_mem_drop (List.mem_of_mem_take h))
      have hgd : ∀ k, k < N → xs.getD (k0 + k) 0 = ((xs.drop k0).take N).getD k 0 := by
        intro k hk
        simp only [List.getD, List.getElem?_take, if_pos hk, List.getElem?_drop]
      generalize hl : (xs.drop k0).take N = l at *
      have t1 : decide ((N : Int) < 1) = false := by simp; omega
      have t2 : decide ((8 : Int) < (N : Int)) = false := by simp; omega
      have t3 : decide ((k0 : Int) < 0) = false := by simp
      have t4 : decide (m < k0) = false := by simp; omega
      have HG := hide hgd
      have HL := hide hln
      clear hl hln hgd hs
      go_enter Try.func22, Try.ntmps22
      go_wp2
      go_loop [9, 41] (fun u i => ∃ (k : Nat) (y : Int), i = .int .i64 k ∧ u = .int .u64 y ∧ k ≤ N ∧ 0 ≤ y ∧ y < 256 ^ k ∧ y ≤ 18446744073709551615 ∧ Hid (y = wV (l.take k))) (fun _ i => N - (intOf i).toNat)
      case atStart => exact ⟨0, 0, rfl, rfl, by omega, by omega, by omega, by omega, by simp [Hid, wV]⟩
      case round =>
        obtain ⟨k, y, rfl, rfl, hk, hy0, hy1, hy2, HY⟩ := hrel
        by_cases hlt : k < N
        · have hx0 : 0 ≤ l.getD k 0 ∧ l.getD k 0 ≤ 255 := by
            rw [List.getD, List.getElem?_eq_getElem (by rw [HL.out]; exact hlt)]; exact hxx _ (List.getElem_mem _)
          have hc := hcell (k0 + k) (.int .u8 (l.getD k 0)) (by rw [← HG.out k hlt]; simp [List.getD, List.getElem?_eq_getElem (show k0 + k < xs.length by omega)])
          rw [← Nat.add_assoc] at hc
          have hsn := hide (take_one l k (by rw [HL.out]; exact hlt))
          have hwv := hide (wV_snoc (l.take k) (l.getD k 0))
          have htk := hide (show (l.take k).length = k by rw [List.length_take, HL.out]; omega)
          generalize l.getD k 0 = x at *
          have hov := worval k (by omega) y x hy0 hy1 hx0.1 hx0.2
          have HO := hide hov.1
          have g1 := hov.2.1
          have g2 := hov.2.2.1
          have g3 := hov.2.2.2
          clear hov hcell hxx
          go_wp2
          go_round
          case rel => exact ⟨k + 1, _, by go_num, rfl, by omega, by rw [HO.out]; exact g1, by rw [HO.out]; exact g2, by rw [HO.out]; exact g3, hide (by rw [HO.out, hsn.out, hwv.out, htk.out, ← HY.out])⟩
          case measure => simp [intOf]; omega
        · obtain rfl : k = N := by omega
          go_wp2
          go_ret3
          refine ⟨?_, rfl⟩
          rw [HY.out, List.take_of_length_le (by rw [HL.out]; omega)]
          rfl


theorem wV_drop (l : List Int) (k : Nat) (h : k < l.length) : wV (l.drop k) = l.getD k 0 + 256 * wV (l.drop (k + 1)) := by
  rw [List.drop_eq_getElem_cons h, List.getD, List.getElem?_eq_getElem h]; rfl
theorem wV_bound (l : List Int) (k : Nat) (hl : l.length ≤ 8) (hk : k < l.length) (h : ∀ x ∈ l, 0 ≤ x ∧ x ≤ 255) : 0 ≤ wV (l.drop (k + 1)) ∧ wV (l.drop (k + 1)) * 256 + 255 ≤ 18446744073709551615 := by
  have h1 := wV_rng (l.drop (k + 1)) (fun x hx => h x (List.mem_of_mem_drop hx))
  have h2 : (256 : Int) ^ (l.drop (k + 1)).length ≤ 256 ^ 7 := by
    rw [List.length_drop]
    obtain ⟨e, he⟩ : ∃ e, 7 = (l.length - (k + 1)) + e := ⟨7 - (l.length - (k + 1)), by omega⟩
    rw [he, Int.pow_add]
    have h3 : (1 : Int) ≤ 256 ^ e := by
      have := Int.pow_pos (n := 256) (m := e) (by decide)
      omega
    have h4 : (0 : Int) ≤ 256 ^ (l.length - (k + 1)) := Int.pow_nonneg (by decide)
    have := Int.mul_le_mul_of_nonneg_left h3 h4
    omega
  have h3 : (256 : Int) ^ 7 = 72057594037927936 := by decide
  omega

set_option maxHeartbeats 1600000 in
theorem rwget_any (A : Option Addr) (m c : Nat) (xs : List Int) (a n : Int) (w : World) (hr : Reads w w.heap.size 1 A m (xs.map (Value.int .u8))) (hx : ∀ x ∈ xs, 0 ≤ x ∧ x ≤ 255) (hm : m ≤ 100000) (hmc : m ≤ c) (hcm : c ≤ maxLen)
    (ha0 : -9223372036854775808 ≤ a) (ha1 : a ≤ 9223372036854775807) :
    Calls Try.prog 23 #[.slice A m c, .int .i64 a, .int .i64 n] w fun e w' => e = .returned (wtup3 (wireGet xs a n)) ∧ w = w' := by
  have hlen : xs.length = m := by simpa using hr.1
  unfold maxLen at hcm
  by_cases hbad : n < 1 ∨ n > 8 ∨ a < 0 ∨ a > m
  · have hs : wireGet xs a n = (0, 0, 11) := by unfold wireGet; rw [if_pos (by omega)]
    rw [hs]
    by_cases h1 : n < 1
    · go_enter Try.func23, Try.ntmps23
      go_wp2
      go_ret3
      exact ⟨rfl, rfl⟩
    · by_cases h2 : n > 8
      · go_enter Try.func23, Try.ntmps23
        go_wp2
        go_ret3
        exact ⟨rfl, rfl⟩
      · by_cases h3 : a < 0
        · go_enter Try.func23, Try.ntmps23
          go_wp2
          go_ret3
          exact ⟨rfl, rfl⟩
        · have h4 : a > m := by omega
          go_enter Try.func23, Try.ntmps23
          go_wp2
          go_ret3
          exact ⟨rfl, rfl⟩
  · obtain ⟨N, rfl⟩ : ∃ N : Nat, n = N := ⟨n.toNat, by omega⟩
    obtain ⟨k0, rfl⟩ : ∃ k0 : Nat, a = k0 := ⟨a.toNat, by omega⟩
    by_cases hsh : (m : Int) - k0 < N
    · have hs : wireGet xs k0 N = (0, 0, 14) := by unfold wireGet; rw [if_neg (by omega), if_pos (by omega)]
      rw [hs]
      go_enter Try.func23, Try.ntmps23
      go_wp2
      go_ret3
      exact ⟨rfl, rfl⟩
    · have hs : wireGet xs k0 N = (wV ((xs.drop k0).take N), ((k0 + N : Nat) : Int), 0) := by unfold wireGet; rw [if_neg (by omega), if_neg (by omega)]; simp
      rw [hs]
      have hkN : k0 + N ≤ m := by omega
      obtain ⟨b, off, rfl, hb, hcell⟩ := hr.cells_ (by omega)
      have hln : ((xs.drop k0).take N).length = N := by rw [List.length_take, List.length_drop]; omega
      have hxx : ∀ x ∈ (xs.drop k0).take N, 0 ≤ x ∧ x ≤ 255 := fun x h => hx x (List.mem_of_mem_drop (List.mem_of_mem_take h))
      have hgd : ∀ k, k < N → xs.getD (k0 + k) 0 = ((xs.drop k0).take N).getD k 0 := by
        intro k hk
        simp only [List.getD, List.getElem?_take, if_pos hk, List.getElem?_drop]
      generalize hl : (xs.drop k0).take N = l at *
      have t1 : decide ((N : Int) < 1) = false := by simp; omega
      have t2 : decide ((8 : Int) < (N : Int)) = false := by simp; omega
      have t3 : decide ((k0 : Int) < 0) = false := by simp
      have t4 : decide (m < k0) = false := by simp; omega
      have HG := hide hgd
      have HL := hide hln
      clear hl hln hgd hs
      go_enter Try.func23, Try.ntmps23
      go_wp2
      go_loop [9, 10] (fun u i => ∃ (k : Nat) (y : Int), i = .int .i64 ((k : Int) - 1) ∧ u = .int .u64 y ∧ k ≤ N ∧ 0 ≤ y ∧ y ≤ 18446744073709551615 ∧ Hid (y = wV (l.drop k))) (fun _ i => (intOf i + 1).toNat)
      case atStart => exact ⟨N, 0, rfl, rfl, by omega, by omega, by omega, by rw [List.drop_eq_nil_of_le (by rw [HL.out]; omega)]; rfl⟩
      case round =>
        obtain ⟨k, y, rfl, rfl, hk, hy0, hy2, HY⟩ := hrel
        cases k with
        | succ k =>
          have hlt : k < N := by omega
          have hx0 : 0 ≤ l.getD k 0 ∧ l.getD k 0 ≤ 255 := by
            rw [List.getD, List.getElem?_eq_getElem (by rw [HL.out]; exact hlt)]; exact hxx _ (List.getElem_mem _)
          have hc := hcell (k0 + k) (.int .u8 (l.getD k 0)) (by rw [← HG.out k hlt]; simp [List.getD, List.getElem?_eq_getElem (show k0 + k < xs.length by omega)])
          have hwb := wV_bound l k (by rw [HL.out]; omega) (by rw [HL.out]; exact hlt) hxx
          rw [← HY.out] at hwb
          have hb1 : y * 256 ≤ 18446744073709551615 := by omega
          have hwd := hide (wV_drop l k (by rw [HL.out]; exact hlt))
          generalize l.getD k 0 = x at *
          have hb2 : y * 256 + x ≤ 18446744073709551615 := by omega
          clear hcell hxx
          rw [show (((k + 1 : Nat) : Int) - 1) = (k : Int) by omega]
          go_wp2
          go_round
          case rel => exact ⟨k, _, rfl, rfl, by omega, by omega, by omega, hide (by rw [hwd.out, ← HY.out]; omega)⟩
          case measure => simp [intOf]
        | zero =>
          go_wp2
          go_ret3
          refine ⟨?_, rfl⟩
          rw [HY.out]
          rfl

end Go.Proofs.Ytoklfcaaaljikaa
