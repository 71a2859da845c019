/- Contracts of leb.Get and of the document's own Get. -/
import Derived.Test.YtoklfcaaaljikaaD
import Derived.Lib.VarintBits
import Derived.Lib.EndianBits
namespace Go.Proofs.Ytoklfcaaaljikaa
open Go.RowKit Go.Lib

/-- The number whose bytes begin the list: k bytes, worth u, stood ahead of it, from place a on. -/
def lebG : List Int → Nat → Int → Int → Int × Int × Int
  | [], _, _, _ => (0, 0, 14)
  | c :: r, k, u, a => if (k = 9 ∧ 1 < c) ∨ (0 < k ∧ c = 0) then (0, 0, 13) else
      if c < 128 then (u + c % 128 * 128 ^ k, a + k + 1, 0) else lebG r (k + 1) (u + c % 128 * 128 ^ k) a
def lebGet (xs : List Int) (a : Int) : Int × Int × Int := if a < 0 ∨ a > xs.length then (0, 0, 11) else lebG (xs.drop a.toNat) 0 0 a
def tup3 (r : Int × Int × Int) : Value := .tuple #[.int .u64 r.1, .int .i64 r.2.1, .int .i64 r.2.2]

theorem lebG_bad {c : Int} {r : List Int} {k : Nat} {u a : Int} (h : (k = 9 ∧ 1 < c) ∨ (0 < k ∧ c = 0)) : lebG (c :: r) k u a = (0, 0, 13) := by
  rw [lebG, if_pos h]
theorem lebG_end {c : Int} {r : List Int} {k : Nat} {u a : Int} (h : ¬ ((k = 9 ∧ 1 < c) ∨ (0 < k ∧ c = 0))) (h2 : c < 128) : lebG (c :: r) k u a = (u + c % 128 * 128 ^ k, a + k + 1, 0) := by
  rw [lebG, if_neg h, if_pos h2]
theorem lebG_next {c : Int} {r : List Int} {k : Nat} {u a : Int} (h : ¬ ((k = 9 ∧ 1 < c) ∨ (0 < k ∧ c = 0))) (h2 : ¬ c < 128) : lebG (c :: r) k u a = lebG r (k + 1) (u + c % 128 * 128 ^ k) a := by
  rw [lebG, if_neg h, if_neg h2]

theorem orval (k : Nat) (hk : k ≤ 9) (y x : Int) (hy0 : 0 ≤ y) (hy1 : y < 128 ^ k) (hx0 : 0 ≤ x) (hx1 : x ≤ 255) (h9 : k = 9 → x ≤ 1) :
    bits BinOp.or IntKind.u64 y (IntKind.u64.wrap (IntKind.u64.wrap (bits BinOp.and IntKind.u8 x 127) * 2 ^ (7 * k))) = y + x % 128 * 128 ^ k ∧ 0 ≤ y + x % 128 * 128 ^ k ∧ y + x % 128 * 128 ^ k < 128 ^ (k + 1) := by
  rw [u8_and127 x hx0 (by omega), IntKind.wrap_u64 (x % 128), Int.emod_eq_of_lt (by omega) (by omega)]
  have hxx : k ≤ 8 ∨ x ≤ 1 := by
    by_cases h : k = 9
    · exact .inr (h9 h)
    · omega
  clear h9
  rcases (by omega : k = 0 ∨ k = 1 ∨ k = 2 ∨ k = 3 ∨ k = 4 ∨ k = 5 ∨ k = 6 ∨ k = 7 ∨ k = 8 ∨ k = 9) with rfl | rfl | rfl | rfl | rfl | rfl | rfl | rfl | rfl | rfl <;>
    simp only [Nat.reduceMul, Int.reducePow, Nat.reduceAdd] at * <;>
    refine ⟨?_, by omega, by omega⟩ <;> rw [IntKind.wrap_u64, Int.emod_eq_of_lt (by omega) (by omega)]
  · exact bits_join_low .u64 64 (by decide) wraps_u64 0 _ _ (by omega) (by omega) (by omega) (by omega) (by omega) (by omega)
  · exact bits_join_low .u64 64 (by decide) wraps_u64 7 _ _ (by omega) (by omega) (by omega) (by omega) (by omega) (by omega)
  · exact bits_join_low .u64 64 (by decide) wraps_u64 14 _ _ (by omega) (by omega) (by omega) (by omega) (by omega) (by omega)
  · exact bits_join_low .u64 64 (by decide) wraps_u64 21 _ _ (by omega) (by omega) (by omega) (by omega) (by omega) (by omega)
  · exact bits_join_low .u64 64 (by decide) wraps_u64 28 _ _ (by omega) (by omega) (by omega) (by omega) (by omega) (by omega)
  · exact bits_join_low .u64 64 (by decide) wraps_u64 35 _ _ (by omega) (by omega) (by omega) (by omega) (by omega) (by omega)
  · exact bits_join_low .u64 64 (by decide) wraps_u64 42 _ _ (by omega) (by omega) (by omega) (by omega) (by omega) (by omega)
  · exact bits_join_low .u64 64 (by decide) wraps_u64 49 _ _ (by omega) (by omega) (by omega) (by omega) (by omega) (by omega)
  · exact bits_join_low .u64 64 (by decide) wraps_u64 56 _ _ (by omega) (by omega) (by omega) (by omega) (by omega) (by omega)
  · exact bits_join_low .u64 64 (by decide) wraps_u64 63 _ _ (by omega) (by omega) (by omega) (by omega) (by omega) (by omega)

theorem tup3_eq {a b c a' b' c' : Int} (h1 : a = a') (h2 : b = b') (h3 : c = c') : Ending.returned (.tuple #[.int .u64 a, .int .i64 b, .int .i64 c]) = .returned (tup3 (a', b', c')) := by
  subst h1 h2 h3; rfl

set_option maxHeartbeats 3200000 in
theorem get_any (A : Option Addr) (n c : Nat) (xs : List Int) (a : Int) (w : World) (hr : Reads w w.heap.size 1 A n (xs.map (Value.int .u8))) (hx : ∀ x ∈ xs, 0 ≤ x ∧ x ≤ 255) (hn : n ≤ 100000) (hnc : n ≤ c) (hcm : c ≤ maxLen)
    (ha0 : -9223372036854775808 ≤ a) (ha1 : a ≤ 9223372036854775807) :
    Calls Try.prog 13 #[.slice A n c, .int .i64 a] w fun e w' => e = .returned (tup3 (lebGet xs a)) ∧ w = w' := by
  have hlen : xs.length = n := by simpa using hr.1
  by_cases hbad : a < 0 ∨ a > n
  · have hs : lebGet xs a = (0, 0, 11) := by unfold lebGet; rw [if_pos (by omega)]
    rw [hs]
    rcases hbad with h | h
    · go_enter Try.func13, Try.ntmps13
      go_wp2
      go_ret3
      exact ⟨rfl, rfl⟩
    · go_enter Try.func13, Try.ntmps13
      go_wp2
      go_ret3
      exact ⟨rfl, rfl⟩
  · obtain ⟨k0, rfl⟩ : ∃ k : Nat, a = k := ⟨a.toNat, by omega⟩
    have hk0 : k0 ≤ n := by omega
    have hs : lebGet xs k0 = lebG (xs.drop k0) 0 0 k0 := by unfold lebGet; rw [if_neg (by omega)]; simp
    rw [hs]
    by_cases hend : k0 = n
    · subst hend
      have hd : xs.drop k0 = [] := by simp [hlen]
      rw [hd]
      unfold maxLen at hcm
      by_cases hck : c = k0
      · go_enter Try.func13, Try.ntmps13
        go_wp2
        refine wp_loop_rounds 1 ?_
        rw [rounds_succ]
        go_wp2
        go_ret3
        exact ⟨rfl, rfl⟩
      · go_enter Try.func13, Try.ntmps13
        go_wp2
        refine wp_loop_rounds 1 ?_
        rw [rounds_succ]
        go_wp2
        go_ret3
        exact ⟨rfl, rfl⟩
    · obtain ⟨b, off, rfl, hb, hcell⟩ := hr.cells_ (by omega)
      unfold maxLen at hcm
      have hcne : ¬ (c = k0) := by omega
      have t1 : decide ((k0 : Int) < 0) = false := by simp
      have t2 : decide (n < k0) = false := by simp; omega
      go_enter Try.func13, Try.ntmps13
      go_wp2
      go_loop [7, 22] (fun u i => ∃ (k : Nat) (y : Int), i = .int .i64 k ∧ u = .int .u64 y ∧ k0 + k ≤ n ∧ k ≤ 9 ∧ 0 ≤ y ∧ y < 128 ^ k ∧ Hid (lebG (xs.drop (k0 + k)) k y k0 = lebG (xs.drop k0) 0 0 k0)) (fun _ i => n - (intOf i).toNat)
      case atStart => exact ⟨0, 0, rfl, rfl, by omega, by omega, by omega, by omega, rfl⟩
      case round =>
        obtain ⟨k, y, rfl, rfl, hkn, hk9, hy0, hy1, HR⟩ := hrel
        by_cases hlt : k0 + k < n
        · have hx0 : 0 ≤ xs.getD (k0 + k) 0 ∧ xs.getD (k0 + k) 0 ≤ 255 := by
            rw [List.getD, List.getElem?_eq_getElem (by omega)]; exact hx _ (List.getElem_mem _)
          have hc := hcell (k0 + k) (.int .u8 (xs.getD (k0 + k) 0)) (by simp [List.getD, List.getElem?_eq_getElem (show k0 + k < xs.length by omega)])
          have hd : xs.drop (k0 + k) = xs.getD (k0 + k) 0 :: xs.drop (k0 + (k + 1)) := by
            rw [List.drop_eq_getElem_cons (by omega), List.getD, List.getElem?_eq_getElem (by omega)]; rfl
          have HD := hide hd
          have hlk : k < n - k0 := by omega
          rw [← Nat.add_assoc] at hc
          clear hd hcell hx hr
          generalize xs.getD (k0 + k) 0 = x at *
          by_cases hbd : (k = 9 ∧ 1 < x) ∨ (0 < k ∧ x = 0)
          · have HE := hide (lebG_bad (r := xs.drop (k0 + (k + 1))) (u := y) (a := k0) hbd)
            go_wp2
            all_goals (first | (exfalso; simp only [beq_eq_false_iff_ne, ne_eq, beq_iff_eq] at *; omega) | (go_ret3; refine ⟨?_, rfl⟩; rw [← HR.out, HD.out, HE.out]; rfl))
          · have h9 : k = 9 → x ≤ 1 := by omega
            have hov := orval k hk9 y x hy0 hy1 hx0.1 hx0.2 h9
            have HO := hide hov.1
            have hge' := hov.2.1
            have hlt' := hov.2.2
            clear hov
            by_cases hx2 : x < 128
            · have HE := hide (lebG_end (r := xs.drop (k0 + (k + 1))) (u := y) (a := k0) hbd hx2)
              by_cases hk : k = 9
              · subst hk
                obtain rfl : x = 1 := by omega
                go_wp2
                go_ret3
                refine ⟨?_, rfl⟩
                rw [← HR.out, HD.out, HE.out]
                exact tup3_eq HO.out rfl rfl
              · have hk9' : ((k : Int) == 9) = false := by simp; omega
                by_cases hk0' : k = 0
                · subst hk0'
                  rw [Nat.add_zero] at hc
                  have HO0 := hide (show bits BinOp.or IntKind.u64 y (IntKind.u64.wrap (IntKind.u64.wrap (bits BinOp.and IntKind.u8 x 127))) = y + x % 128 * 128 ^ 0 by have := HO.out; rwa [Nat.mul_zero, Int.pow_zero, Int.mul_one] at this)
                  go_wp2
                  go_ret3
                  refine ⟨?_, rfl⟩
                  rw [← HR.out, HD.out, HE.out]
                  exact tup3_eq HO0.out rfl rfl
                · have hx00 : (x == 0) = false := by simp; omega
                  go_wp2
                  go_ret3
                  refine ⟨?_, rfl⟩
                  rw [← HR.out, HD.out, HE.out]
                  exact tup3_eq HO.out rfl rfl
            · have HE := hide (lebG_next (r := xs.drop (k0 + (k + 1))) (u := y) (a := k0) hbd hx2)
              have hk9' : ((k : Int) == 9) = false := by simp; omega
              have hx00 : (x == 0) = false := by simp; omega
              by_cases hk0' : k = 0
              · subst hk0'
                rw [Nat.add_zero] at hc
                have HO0 := hide (show bits BinOp.or IntKind.u64 y (IntKind.u64.wrap (IntKind.u64.wrap (bits BinOp.and IntKind.u8 x 127))) = y + x % 128 * 128 ^ 0 by have := HO.out; rwa [Nat.mul_zero, Int.pow_zero, Int.mul_one] at this)
                go_wp2
                go_round
                case rel => exact ⟨1, _, by go_num, rfl, by omega, by omega, by rw [HO0.out]; exact hge', by rw [HO0.out]; exact hlt', hide (by rw [← HR.out, HD.out, HE.out, HO0.out])⟩
                case measure => simp [intOf]; omega
              · go_wp2
                go_round
                case rel => exact ⟨k + 1, _, by go_num, rfl, by omega, by omega, by rw [HO.out]; exact hge', by rw [HO.out]; exact hlt', hide (by rw [← HR.out, HD.out, HE.out, HO.out])⟩
                case measure => simp [intOf]; omega
        · have hlk : ¬ (k < n - k0) := by omega
          go_wp2
          go_ret3
          refine ⟨?_, rfl⟩
          rw [← HR.out, List.drop_eq_nil_of_le (by omega)]
          rfl

end Go.Proofs.Ytoklfcaaaljikaa
