/- The law LebGets: any bytes are a number's as the chapter says, and what is got is put as it was. -/
import Derived.Test.YtoklfcaaaljikaaE
import Derived.Test.YtoklfcaaaljikaaG
namespace Go.Proofs.Ytoklfcaaaljikaa
open Go.RowKit Go.Lib

theorem lebG_back (l : List Int) (k : Nat) (acc a r e : Int) (f : Nat) (hkf : k + f = 9) (hx : ∀ x ∈ l, 0 ≤ x ∧ x ≤ 255) (h : lebG l k acc a = (r, e, 0)) :
    ∃ v : Int, ∃ m : Nat, 0 ≤ v ∧ v < 128 ^ (f + 1) ∧ (0 < k → 0 < v) ∧ (k = 9 → v ≤ 1) ∧ r = acc + v * 128 ^ k ∧ e = a + k + m ∧ lebB f v = l.take m ∧ m ≤ l.length ∧ (v + 1) * 128 ^ k ≤ 18446744073709551616 := by
  induction l generalizing k acc f with
  | nil => simp [lebG] at h
  | cons c l ih =>
    have hc := hx c (by simp)
    by_cases hbad : (k = 9 ∧ 1 < c) ∨ (0 < k ∧ c = 0)
    · rw [lebG_bad hbad] at h; simp at h
    · by_cases hlt : c < 128
      · rw [lebG_end hbad hlt, Int.emod_eq_of_lt hc.1 hlt] at h
        simp only [Prod.mk.injEq] at h
        refine ⟨c, 1, hc.1, ?_, by omega, by omega, h.1.symm, by rw [← h.2.1]; rfl, by rw [lebB_low _ _ hlt]; rfl, by simp, ?_⟩
        · have e0 : (128 : Int) ^ (f + 1) = 128 ^ f * 128 := Int.pow_succ _ _
          have : (0 : Int) < 128 ^ f := Int.pow_pos (by decide)
          omega
        · rcases (by omega : k = 0 ∨ k = 1 ∨ k = 2 ∨ k = 3 ∨ k = 4 ∨ k = 5 ∨ k = 6 ∨ k = 7 ∨ k = 8 ∨ k = 9) with rfl | rfl | rfl | rfl | rfl | rfl | rfl | rfl | rfl | rfl <;>
            simp only [Int.reducePow] <;> omega
      · obtain ⟨f', rfl⟩ : ∃ f', f = f' + 1 := ⟨f - 1, by omega⟩
        rw [lebG_next hbad hlt] at h
        obtain ⟨v, m, h0, h1, h2, h3, h4, h5, h6, h7, h8⟩ := ih (k + 1) _ f' (by omega) (fun x hx' => hx x (by simp [hx'])) h
        have hv := h2 (by omega)
        have e1 : (128 : Int) ^ (f' + 1 + 1) = 128 ^ (f' + 1) * 128 := Int.pow_succ _ _
        have e2 : (128 : Int) ^ (k + 1) = 128 ^ k * 128 := Int.pow_succ _ _
        refine ⟨c - 128 + v * 128, m + 1, by omega, by rw [e1]; omega, by omega, by omega, ?_, by rw [h5]; simp; omega, ?_, by simp; omega, ?_⟩
        · rw [h4, e2, ← Int.mul_assoc, Int.mul_right_comm, Int.add_assoc, ← Int.add_mul]
          congr 2
          omega
        · have hn : ¬ (c - 128 + v * 128 < 128) := by omega
          have : lebB (f' + 1) (c - 128 + v * 128) = ((c - 128 + v * 128) % 128 + 128) :: lebB f' ((c - 128 + v * 128) / 128) := by simp [lebB, hn]
          rw [this, show (c - 128 + v * 128) / 128 = v by omega, show (c - 128 + v * 128) % 128 + 128 = c by omega, h6]
          rfl
        · have hp : (0 : Int) ≤ 128 ^ k := Int.pow_nonneg (by decide)
          have := Int.mul_le_mul_of_nonneg_right (show c - 128 + v * 128 + 1 ≤ (v + 1) * 128 by omega) hp
          rw [e2, ← Int.mul_assoc, Int.mul_right_comm] at h8
          omega

/-- What Get tells without an error stands at its place. -/
theorem lebGet_back (xs : List Int) (a r e : Int) (hx : ∀ x ∈ xs, 0 ≤ x ∧ x ≤ 255) (h : lebGet xs a = (r, e, 0)) :
    ∃ k m : Nat, a = k ∧ e = ((k + m : Nat) : Int) ∧ k + m ≤ xs.length ∧ 0 < m ∧ 0 ≤ r ∧ r ≤ 18446744073709551615 ∧ lebB 9 r = (xs.drop k).take m := by
  unfold lebGet at h
  split at h
  · simp at h
  · obtain ⟨k, rfl⟩ : ∃ k : Nat, a = k := ⟨a.toNat, by omega⟩
    simp only [Int.toNat_natCast] at h
    obtain ⟨v, m, h0, h1, h2, h3, h4, h5, h6, h7, h8⟩ := lebG_back _ 0 0 k r e 9 (by omega) (fun x hx' => hx x (List.mem_of_mem_drop hx')) h
    have hr : r = v := by rw [h4]; simp
    subst hr
    have hm : 0 < m := by
      have := (lebB_length 9 r).1
      rw [h6, List.length_take] at this
      omega
    rw [List.length_drop] at h7
    refine ⟨k, m, rfl, by rw [h5]; simp, by omega, hm, h0, by simp at h8; omega, h6⟩

set_option maxHeartbeats 3200000 in
theorem gets_law (A : Option Addr) (n c : Nat) (xs : List Int) (a : Int) (w : World) (hr : Reads w w.heap.size 1 A n (xs.map (Value.int .u8))) (hx : ∀ x ∈ xs, 0 ≤ x ∧ x ≤ 255) (hnc : n ≤ c) (hcm : c ≤ maxLen)
    (ha0 : -9223372036854775808 ≤ a) (ha1 : a ≤ 9223372036854775807) :
    Calls Try.prog 4 #[.slice A n c, .int .i64 a] w fun e w' => e = .returned (.bool true) ∧ Below w.heap.size w w' := by
  have hcm' : c ≤ 9223372036854775807 := by unfold maxLen at hcm; omega
  have hlen : xs.length = n := by simpa using hr.1
  by_cases hbig : n > 400
  · go_enter Try.func4, Try.ntmps4
    go_wp2_with fail
    refine (awake2 w).mono ?_
    rintro e w1 ⟨rfl, hb⟩
    go_wp2
    go_ret
    exact ⟨rfl, hb⟩
  · go_enter Try.func4, Try.ntmps4
    go_wp2_with fail
    refine (awake2 w).mono ?_
    rintro e w1 ⟨rfl, hb⟩
    have hr1 := (hr.below hb).more hb.size
    go_wp2_with fail
    refine (get_any A n c xs a w1 hr1 hx (by omega) hnc hcm ha0 ha1).mono ?_
    rintro e w1 ⟨rfl, rfl⟩
    unfold tup3
    go_wp2_with fail
    refine (rget_any A n c xs a w1 hr1 hx (by omega) hnc hcm ha0 ha1).mono ?_
    rintro e w1 ⟨rfl, rfl⟩
    unfold tup3
    obtain ⟨⟨r, e, q⟩, hres⟩ : ∃ r, r = lebGet xs a := ⟨_, rfl⟩
    rw [← hres]
    by_cases hq : q = 0
    · subst hq
      obtain ⟨k, m, rfl, rfl, hkm, hm, h0, h1, hlb⟩ := lebGet_back xs a r e hx hres.symm
      clear hres
      have hml' : (lebB 9 r).length = m := by rw [hlb, List.length_take, List.length_drop]; omega
      obtain ⟨b, off, rfl, hbl, _⟩ := hr1.cells_ (by omega)
      have hrc := hr1.sub (show k + m ≤ n by omega)
      rw [← hlb] at hrc
      have hck : ¬ c = k := by omega
      have hkn : k + m ≤ n := by omega
      have q1 := conv_reads (P := Try.prog) 22 5 9 Try.underlying22 Try.underlying5 Try.underlying9 hrc.drew (c - k)
      go_wp2_with fail
      have hml := hide hml'
      clear hml' hr1 hr hlb hx hlen
      go_region_with (first
        | (go_at_call_of 10 r; refine (putnil_any r _ h0 h1).mono ?_; rintro e w2 ⟨A2, c2, rfl, hc2, hm2, hr2, hb2⟩; have q2 := conv_reads (P := Try.prog) 22 5 9 Try.underlying22 Try.underlying5 Try.underlying9 hr2 c2; have q3 := conv_reads (P := Try.prog) 22 5 9 Try.underlying22 Try.underlying5 Try.underlying9 (hrc.drew.below hb2) (c - k)))
      all_goals clear q1 q2 q3
      all_goals go_wp2
      all_goals go_ret
      all_goals (first | exact ⟨rfl, bchain hb.drew hb2⟩ | exact ⟨rfl, (bchain hb.drew hb2).drew⟩)
    · clear hres
      have hq1 : (q == 0) = false := by simpa using hq
      have hq2 : (q != 0) = true := by simpa using hq
      go_wp2_with fail
      go_quiet (fail)
      go_wp2
      go_ret
      exact ⟨rfl, below_drewN hb _⟩

end Go.Proofs.Ytoklfcaaaljikaa
