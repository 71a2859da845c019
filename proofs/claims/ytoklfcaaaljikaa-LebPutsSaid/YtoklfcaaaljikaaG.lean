/- The document's own Get (hachureref02.Get), and the law LebGets. -/
import Derived.Test.YtoklfcaaaljikaaF
namespace Go.Proofs.Ytoklfcaaaljikaa
open Go.RowKit Go.Lib

theorem rsum (k : Nat) (hk : k ≤ 9) (y x z : Int) (hz : z = 128 ^ k) (hy0 : 0 ≤ y) (hy1 : y < 128 ^ k) (hx0 : 0 ≤ x) (hx1 : x ≤ 255) (h9 : k = 9 → x ≤ 1) :
    IntKind.u64.wrap (y + IntKind.u64.wrap (x % 128 * z)) = y + x % 128 * 128 ^ k ∧ (k ≤ 8 → IntKind.u64.wrap (z * 128) = 128 ^ (k + 1)) := by
  have hxx : k ≤ 8 ∨ x ≤ 1 := by
    by_cases h : k = 9
    · exact .inr (h9 h)
    · omega
  clear h9
  subst hz
  rw [IntKind.wrap_u64, IntKind.wrap_u64, IntKind.wrap_u64]
  rcases (by omega : k = 0 ∨ k = 1 ∨ k = 2 ∨ k = 3 ∨ k = 4 ∨ k = 5 ∨ k = 6 ∨ k = 7 ∨ k = 8 ∨ k = 9) with rfl | rfl | rfl | rfl | rfl | rfl | rfl | rfl | rfl | rfl <;>
    simp only [Nat.reduceMul, Int.reducePow, Nat.reduceAdd] at * <;> omega

set_option maxHeartbeats 3200000 in
theorem rget_any (A : Option Addr) (n c : Nat) (xs : List Int) (a : Int) (w : World) (hr : Reads w w.heap.size 1 A n (xs.map (Value.int .u8))) (hx : ∀ x ∈ xs, 0 ≤ x ∧ x ≤ 255) (hn : n ≤ 100000) (hnc : n ≤ c) (hcm : c ≤ maxLen)
    (ha0 : -9223372036854775808 ≤ a) (ha1 : a ≤ 9223372036854775807) :
    Calls Try.prog 14 #[.slice A n c, .int .i64 a] w fun e w' => e = .returned (tup3 (lebGet xs a)) ∧ w = w' := by
  have hlen : xs.length = n := by simpa using hr.1
  by_cases hbad : a < 0 ∨ a > n
  · have hs : lebGet xs a = (0, 0, 11) := by unfold lebGet; rw [if_pos (by omega)]
    rw [hs]
    rcases hbad with h | h
    · go_enter Try.func14, Try.ntmps14
      go_wp2
      go_ret3
      exact ⟨rfl, rfl⟩
    · go_enter Try.func14, Try.ntmps14
      go_wp2
      go_ret3
      exact ⟨rfl, rfl⟩
  · obtain ⟨k0, rfl⟩ : ∃ k : Nat, a = k := ⟨a.toNat, by omega⟩
    have hk0 : k0 ≤ n := by omega
    have hs : lebGet xs k0 = lebG (xs.drop k0) 0 0 k0 := by unfold lebGet; rw [if_neg (by omega)]; simp
    rw [hs]
    unfold maxLen at hcm
    have t1 : decide ((k0 : Int) < 0) = false := by simp
    have t2 : decide (n < k0) = false := by simp; omega
    go_enter Try.func14, Try.ntmps14
    go_wp2
    go_loop [7, 8, 9] (fun u z i => ∃ (k : Nat) (y t : Int), i = .int .i64 k ∧ u = .int .u64 y ∧ z = .int .u64 t ∧ k0 + k ≤ n ∧ k ≤ 9 ∧ 0 ≤ y ∧ y < 128 ^ k ∧ Hid (t = 128 ^ k) ∧ 0 ≤ t ∧ t ≤ 18446744073709551615 ∧ y ≤ 18446744073709551615 ∧ Hid (lebG (xs.drop (k0 + k)) k y k0 = lebG (xs.drop k0) 0 0 k0)) (fun _ _ i => 10 - (intOf i).toNat)
    case atStart => exact ⟨0, 0, 1, rfl, rfl, rfl, by omega, by omega, by omega, by omega, rfl, by omega, by omega, by omega, rfl⟩
    case round =>
      obtain ⟨k, y, t, rfl, rfl, rfl, hkn, hk9, hy0, hy1, HT, ht0, ht1, hy2, HR⟩ := hrel
      have hk10 : k < 10 := by omega
      by_cases hlt : k0 + k < n
      · obtain ⟨b, off, rfl, hb, hcell⟩ := hr.cells_ (by omega)
        have hx0 : 0 ≤ xs.getD (k0 + k) 0 ∧ xs.getD (k0 + k) 0 ≤ 255 := by
          rw [List.getD, List.getElem?_eq_getElem (by omega)]; exact hx _ (List.getElem_mem _)
        have hc := hcell (k0 + k) (.int .u8 (xs.getD (k0 + k) 0)) (by simp [List.getD, List.getElem?_eq_getElem (show k0 + k < xs.length by omega)])
        have hd : xs.drop (k0 + k) = xs.getD (k0 + k) 0 :: xs.drop (k0 + (k + 1)) := by
          rw [List.drop_eq_getElem_cons (by omega), List.getD, List.getElem?_eq_getElem (by omega)]; rfl
        have HD := hide hd
        have hle : ¬ ((n : Int) - k0 ≤ k) := by omega
        clear hd hcell hx hr
        generalize xs.getD (k0 + k) 0 = x at *
        by_cases hbd : (k = 9 ∧ 1 < x) ∨ (0 < k ∧ x = 0)
        · have HE := hide (lebG_bad (r := xs.drop (k0 + (k + 1))) (u := y) (a := k0) hbd)
          go_wp2
          all_goals (first | (exfalso; simp only [beq_eq_false_iff_ne, ne_eq, beq_iff_eq] at *; omega) | (go_ret3; refine ⟨?_, rfl⟩; rw [← HR.out, HD.out, HE.out]; rfl))
        · have h9 : k = 9 → x ≤ 1 := by omega
          have hov := orval k hk9 y x hy0 hy1 hx0.1 hx0.2 h9
          have hrs := rsum k hk9 y x t HT.out hy0 hy1 hx0.1 hx0.2 h9
          have HO := hide hrs
          have hge' := hov.2.1
          have hlt' := hov.2.2
          clear hov hrs
          by_cases hx2 : x < 128
          · have HE := hide (lebG_end (r := xs.drop (k0 + (k + 1))) (u := y) (a := k0) hbd hx2)
            go_wp2
            all_goals (first | (exfalso; simp only [beq_eq_false_iff_ne, ne_eq, beq_iff_eq] at *; omega) | (go_ret3; refine ⟨?_, rfl⟩; rw [← HR.out, HD.out, HE.out]; exact tup3_eq HO.out.1 (by omega) rfl))
          · have HE := hide (lebG_next (r := xs.drop (k0 + (k + 1))) (u := y) (a := k0) hbd hx2)
            have hk9' : ((k : Int) == 9) = false := by simp; omega
            have hx00 : (x == 0) = false := by simp; omega
            have hk8 : k ≤ 8 := by omega
            go_wp2
            all_goals
              go_round
              case rel =>
                have w1 := IntKind.wrap_u64 (y + IntKind.u64.wrap (x % 128 * t))
                have w2 := IntKind.wrap_u64 (t * 128)
                exact ⟨k + 1, _, _, by go_num, rfl, rfl, by omega, by omega, by rw [HO.out.1]; exact hge', by rw [HO.out.1]; exact hlt', hide (HO.out.2 hk8), by omega, by omega, by omega, hide (by rw [← HR.out, HD.out, HE.out, HO.out.1])⟩
              case measure => simp [intOf]; omega
      · have hle : (n : Int) - k0 ≤ k := by omega
        go_wp2
        go_ret3
        refine ⟨?_, rfl⟩
        rw [← HR.out, List.drop_eq_nil_of_le (by omega)]
        rfl

theorem lebG_tail (f : Nat) (u : Int) (k : Nat) (acc a : Int) (ys : List Int) (hkf : k + f = 9) (h0 : 0 ≤ u) (h1 : u < 128 ^ (f + 1)) (hk : 0 < k → 0 < u) (h9 : k = 9 → u ≤ 1) (h64 : acc + u * 128 ^ k ≤ 18446744073709551615) (hacc : 0 ≤ acc) :
    lebG (lebB f u ++ ys) k acc a = (acc + u * 128 ^ k, a + k + (lebB f u).length, 0) := by
  induction f generalizing u k acc with
  | zero =>
    have hlt : u < 128 := by simpa using h1
    have h99 := h9 (by omega)
    show lebG (u :: ys) k acc a = _
    rw [lebG_end (by omega) hlt, Int.emod_eq_of_lt h0 hlt]
    simp [lebB]
  | succ f ih =>
    by_cases hlt : u < 128
    · rw [lebB_low _ _ hlt]
      show lebG (u :: ys) k acc a = _
      rw [lebG_end (by omega) hlt, Int.emod_eq_of_lt h0 hlt]
      simp
    · have hl : lebB (f + 1) u = (u % 128 + 128) :: lebB f (u / 128) := by simp [lebB, hlt]
      have e : (128 : Int) ^ (f + 1 + 1) = 128 ^ (f + 1) * 128 := Int.pow_succ _ _
      have e2 : (128 : Int) ^ (k + 1) = 128 ^ k * 128 := Int.pow_succ _ _
      have hm : (u % 128 + 128) % 128 = u % 128 := by omega
      have hsum : acc + u % 128 * 128 ^ k + u / 128 * 128 ^ (k + 1) = acc + u * 128 ^ k := by
        have hu : u % 128 + u / 128 * 128 = u := by omega
        rw [e2, ← Int.mul_assoc, Int.mul_right_comm, Int.add_assoc, ← Int.add_mul, hu]
      rw [hl, List.cons_append, lebG_next (by omega) (by omega), hm, ih (u / 128) (k + 1) _ (by omega) (by omega) (by rw [e] at h1; exact Int.ediv_lt_of_lt_mul (by omega) h1) (by omega) ?_ (by rw [hsum]; exact h64) ?_, hsum]
      · simp; omega
      · intro hk9
        obtain rfl : k = 8 := by omega
        have : u / 128 * 128 ^ (8 + 1) ≤ 18446744073709551615 := by
          have h1 : 0 ≤ u % 128 * 128 ^ 8 := Int.mul_nonneg (by omega) (by decide)
          omega
        simp only [Nat.reduceAdd, Int.reducePow] at this
        omega
      · have h1 : 0 ≤ u % 128 * 128 ^ k := Int.mul_nonneg (by omega) (Int.pow_nonneg (by decide))
        omega

end Go.Proofs.Ytoklfcaaaljikaa
