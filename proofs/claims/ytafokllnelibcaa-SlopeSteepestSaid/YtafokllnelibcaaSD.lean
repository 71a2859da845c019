/- Contracts of the document's own Floor, left, Cmp of layer 24. -/
import Derived.Test.YtafokllnelibcaaSC
namespace Go.Proofs.Ytafokllnelibcaa
open Go.RowKit Go.Lib

theorem rfloor_ok (u o : Int) (w : World) (h : 1 ≤ o) (h0 : -9223372036854775808 ≤ u) (h1 : u ≤ 9223372036854775807) (h2 : o ≤ 9223372036854775807) :
    Calls Try.prog 36 #[.int .i64 u, .int .i64 o] w fun e w' => e = .returned (.int .i64 (u / o)) ∧ w = w' := by
  obtain ⟨F1, F2⟩ := floor_facts u o h
  obtain ⟨R1, R2⟩ := floor_rng u o h h0 h1
  by_cases hm : u.tmod o < 0
  · have hq := F1 hm
    have hq1 : -9223372036854775808 ≤ u.tdiv o - 1 := by omega
    have hq2 : u.tdiv o ≤ 9223372036854775807 := by
      have := Int.tdiv_eq_ediv (a := u) (b := o)
      have hneg : u < 0 := by
        by_cases h : u < 0
        · exact h
        · rw [Int.tmod_eq_emod_of_nonneg (show 0 ≤ u by omega)] at hm
          have := Int.emod_nonneg u (show o ≠ 0 by omega)
          omega
      have := Int.ediv_neg_of_neg_of_pos hneg (show 0 < o by omega)
      omega
    have HQ := hide hq
    clear hq F1 F2 R1 R2
    go_enter Try.func36, Try.ntmps36
    go_wp2
    go_ret
    exact ⟨by rw [HQ.out]; rfl, rfl⟩
  · have hq := F2 (by omega)
    have hq1 : -9223372036854775808 ≤ u.tdiv o := by omega
    have hq2 : u.tdiv o ≤ 9223372036854775807 := by omega
    have HQ := hide hq
    clear hq F1 F2 R1 R2
    go_enter Try.func36, Try.ntmps36
    go_wp2
    go_ret
    exact ⟨by rw [HQ.out]; rfl, rfl⟩

theorem left_facts (u o : Int) (ho : 1 ≤ o) : (u.tmod o < 0 → u % o = u.tmod o + o) ∧ (0 ≤ u.tmod o → u % o = u.tmod o) := by
  have h2 := Int.tmod_eq_emod (a := u) (b := o)
  have h3 := Int.emod_nonneg u (show o ≠ 0 by omega)
  have h4 := Int.emod_lt_of_pos u (show 0 < o by omega)
  by_cases h : 0 ≤ u ∨ o ∣ u
  · rw [if_pos h] at h2
    constructor <;> intro h5 <;> omega
  · rw [if_neg h] at h2
    constructor <;> intro h5 <;> omega

theorem left_ok (u o : Int) (w : World) (h : 1 ≤ o) (h2 : o ≤ 9223372036854775807) :
    Calls Try.prog 51 #[.int .i64 u, .int .i64 o] w fun e w' => e = .returned (.int .i64 (u % o)) ∧ w = w' := by
  obtain ⟨F1, F2⟩ := left_facts u o h
  have r0 := Int.emod_nonneg u (show o ≠ 0 by omega)
  have r1 := Int.emod_lt_of_pos u (show 0 < o by omega)
  by_cases hm : u.tmod o < 0
  · have hq := F1 hm
    have b1 : 0 ≤ u.tmod o + o := by omega
    have b2 : u.tmod o + o < o := by omega
    have HQ := hide hq
    clear hq F1 F2 r0 r1
    go_enter Try.func51, Try.ntmps51
    go_wp2
    go_ret
    exact ⟨by rw [HQ.out]; rfl, rfl⟩
  · have hq := F2 (by omega)
    have HQ := hide hq
    clear hq F1 F2 r0 r1
    go_enter Try.func51, Try.ntmps51
    go_wp2
    go_ret
    exact ⟨by rw [HQ.out]; rfl, rfl⟩

theorem cmp3_swap (x y : Int) : cmp3 y x = 0 - cmp3 x y := by
  unfold cmp3
  repeat' split
  all_goals omega

/-- Whole parts tell, or what is left does. -/
theorem cmp_parts (au ao bu bo : Int) (ha : 1 ≤ ao) (hb : 1 ≤ bo) :
    (au / ao < bu / bo → cmp3 (au * bo) (bu * ao) = -1) ∧ (bu / bo < au / ao → cmp3 (au * bo) (bu * ao) = 1) ∧
    (au / ao = bu / bo → cmp3 (au * bo) (bu * ao) = cmp3 (au % ao * bo) (bu % bo * ao)) := by
  have e1 := Int.mul_ediv_add_emod au ao
  have e2 := Int.mul_ediv_add_emod bu bo
  have r0 := Int.emod_nonneg au (show ao ≠ 0 by omega)
  have r1 := Int.emod_lt_of_pos au (show 0 < ao by omega)
  have s0 := Int.emod_nonneg bu (show bo ≠ 0 by omega)
  have s1 := Int.emod_lt_of_pos bu (show 0 < bo by omega)
  generalize au / ao = p at *
  generalize bu / bo = q at *
  generalize au % ao = r at *
  generalize bu % bo = s at *
  have f1 : au * bo = p * (ao * bo) + r * bo := by rw [← e1, Int.add_mul, Int.mul_comm ao p, Int.mul_assoc]
  have f2 : bu * ao = q * (ao * bo) + s * ao := by rw [← e2, Int.add_mul, Int.mul_comm bo q, Int.mul_assoc, Int.mul_comm bo ao]
  have m0 : 0 ≤ r * bo := Int.mul_nonneg r0 (by omega)
  have m1 : r * bo + bo ≤ ao * bo := by
    have := Int.mul_le_mul_of_nonneg_right (show r + 1 ≤ ao by omega) (show 0 ≤ bo by omega)
    rwa [Int.add_mul, Int.one_mul] at this
  have n0 : 0 ≤ s * ao := Int.mul_nonneg s0 (by omega)
  have n1 : s * ao + ao ≤ ao * bo := by
    have := Int.mul_le_mul_of_nonneg_right (show s + 1 ≤ bo by omega) (show 0 ≤ ao by omega)
    rw [Int.add_mul, Int.one_mul, Int.mul_comm bo ao] at this
    exact this
  have hab : 0 ≤ ao * bo := by omega
  refine ⟨fun h => ?_, fun h => ?_, fun h => ?_⟩
  · have := Int.mul_le_mul_of_nonneg_right (show p + 1 ≤ q by omega) hab
    rw [Int.add_mul, Int.one_mul] at this
    rw [f1, f2]; unfold cmp3; rw [if_pos (by omega)]
  · have := Int.mul_le_mul_of_nonneg_right (show q + 1 ≤ p by omega) hab
    rw [Int.add_mul, Int.one_mul] at this
    rw [f1, f2]; unfold cmp3; rw [if_neg (by omega), if_pos (by omega)]
  · subst h
    rw [f1, f2]
    unfold cmp3
    repeat' split
    all_goals omega

theorem half_prod (au ao m : Int) (ho : 1 ≤ ao) (h : ao ≤ au) (hm : au * ao ≤ 2 * m) : ao * (au % ao) ≤ m := by
  have e1 := Int.mul_ediv_add_emod au ao
  have r0 := Int.emod_nonneg au (show ao ≠ 0 by omega)
  have r1 := Int.emod_lt_of_pos au (show 0 < ao by omega)
  have hp : 1 ≤ au / ao := Int.le_ediv_of_mul_le (by omega) (by omega)
  have h2 := Int.mul_le_mul_of_nonneg_left hp (show 0 ≤ ao by omega)
  rw [Int.mul_one] at h2
  have h3 : 2 * (au % ao) ≤ au := by omega
  have h4 := Int.mul_le_mul_of_nonneg_right h3 (show 0 ≤ ao by omega)
  rw [Int.mul_assoc, Int.mul_comm (au % ao) ao] at h4
  omega

/-- How large the numbers may still be at round k. -/
def Small (k : Nat) (au ao : Int) : Prop := 1 ≤ k → ao ≤ au ∧ au * ao * 2 ^ (k - 1) ≤ 85070591730234615865843651857942052864

theorem small_first (au ao : Int) (h1 : 1 ≤ ao) (h2 : ao ≤ 9223372036854775807) : Small 1 ao (au % ao) := by
  intro _
  have r0 := Int.emod_nonneg au (show ao ≠ 0 by omega)
  have r1 := Int.emod_lt_of_pos au (show 0 < ao by omega)
  refine ⟨by omega, ?_⟩
  have := Int.mul_le_mul (show ao ≤ 9223372036854775807 by omega) (show au % ao ≤ 9223372036854775807 by omega) r0 (by omega)
  simp
  omega
theorem small_next (k : Nat) (au ao : Int) (hk : 1 ≤ k) (h1 : 1 ≤ ao) (h : Small k au ao) : Small (k + 1) ao (au % ao) := by
  intro _
  obtain ⟨h2, h3⟩ := h hk
  have r0 := Int.emod_nonneg au (show ao ≠ 0 by omega)
  have r1 := Int.emod_lt_of_pos au (show 0 < ao by omega)
  refine ⟨by omega, ?_⟩
  obtain ⟨j, rfl⟩ : ∃ j, k = j + 1 := ⟨k - 1, by omega⟩
  simp only [Nat.add_sub_cancel] at h3 ⊢
  have e : (2 : Int) ^ (j + 1) = 2 * 2 ^ j := by rw [Int.pow_succ, Int.mul_comm]
  have hp : (0 : Int) < 2 ^ j := Int.pow_pos (by decide)
  have e1 := Int.mul_ediv_add_emod au ao
  have hq : 1 ≤ au / ao := Int.le_ediv_of_mul_le (by omega) (by omega)
  have h5 := Int.mul_le_mul_of_nonneg_left hq (show 0 ≤ ao by omega)
  rw [Int.mul_one] at h5
  have h6 : 2 * (au % ao) ≤ au := by omega
  have h7 := Int.mul_le_mul_of_nonneg_right h6 (show 0 ≤ ao by omega)
  have h8 := Int.mul_le_mul_of_nonneg_right h7 (show 0 ≤ (2 : Int) ^ j by omega)
  have e3 : ao * (au % ao) * 2 ^ (j + 1) = 2 * (au % ao) * ao * 2 ^ j := by
    rw [e]; ac_rfl
  rw [e3]
  omega
theorem small_end (au ao : Int) (h1 : 1 ≤ ao) (h : Small 200 au ao) : False := by
  obtain ⟨h2, h3⟩ := h (by decide)
  have e : (2 : Int) ^ (200 - 1) = 803469022129495137770981046170581301261101496891396417650688 := by decide
  rw [e] at h3
  have := Int.mul_le_mul (show 1 ≤ au by omega) h1 (by omega) (by omega)
  omega

set_option maxRecDepth 100000 in
set_option maxHeartbeats 3200000 in
theorem rcmp_ok (au0 ao0 bu0 bo0 : Int) (w : World) (ha : 1 ≤ ao0) (hb : 1 ≤ bo0) (ha2 : ao0 ≤ 9223372036854775807) (hb2 : bo0 ≤ 9223372036854775807) (h0 : -9223372036854775808 ≤ au0) (h1 : -9223372036854775808 ≤ bu0) (h2 : au0 ≤ 9223372036854775807) (h3 : bu0 ≤ 9223372036854775807) :
    Calls Try.prog 37 #[.int .i64 au0, .int .i64 ao0, .int .i64 bu0, .int .i64 bo0] w fun e w' => e = .returned (.int .i64 (cmp3 (au0 * bo0) (bu0 * ao0))) ∧ w = w' := by
  obtain ⟨C, hC⟩ : ∃ C, Hid (C = cmp3 (au0 * bo0) (bu0 * ao0)) := ⟨_, rfl⟩
  rw [← hC.out]
  go_enter Try.func37, Try.ntmps37
  go_wp2
  go_loop [0, 1, 2, 3, 9, 10] (fun s0 s1 s2 s3 s9 s10 => ∃ (k : Nat) (au ao bu bo sg : Int), s0 = .int .i64 au ∧ s1 = .int .i64 ao ∧ s2 = .int .i64 bu ∧ s3 = .int .i64 bo ∧ s9 = .int .i64 sg ∧ s10 = .int .i64 k ∧ k ≤ 200 ∧ 1 ≤ ao ∧ 1 ≤ bo ∧ ao ≤ 9223372036854775807 ∧ bo ≤ 9223372036854775807 ∧ -9223372036854775808 ≤ au ∧ -9223372036854775808 ≤ bu ∧ au ≤ 9223372036854775807 ∧ bu ≤ 9223372036854775807 ∧ -1 ≤ sg ∧ sg ≤ 1 ∧ Hid (Small k au ao) ∧ Hid (C = sg * cmp3 (au * bo) (bu * ao))) (fun _ _ _ _ _ s10 => 200 - (intOf s10).toNat)
  case atStart => exact ⟨0, au0, ao0, bu0, bo0, 1, rfl, rfl, rfl, rfl, rfl, rfl, by omega, ha, hb, ha2, hb2, h0, h1, h2, h3, by omega, by omega, fun h => absurd h (by omega), by rw [Int.one_mul]; exact hC⟩
  case round =>
    obtain ⟨k, au, ao, bu, bo, sg, rfl, rfl, rfl, rfl, rfl, rfl, hk, qa, qb, qa2, qb2, q0, q1, q2, q3, g0, g1, HS, HC⟩ := hrel
    by_cases hlt : k < 200
    · obtain ⟨P1, P2, P3⟩ := cmp_parts au ao bu bo qa qb
      clear ha hb ha2 hb2 h0 h1 h2 h3 hC
      have r0 := Int.emod_nonneg au (show ao ≠ 0 by omega)
      have r1 := Int.emod_lt_of_pos au (show 0 < ao by omega)
      have s0 := Int.emod_nonneg bu (show bo ≠ 0 by omega)
      have s1 := Int.emod_lt_of_pos bu (show 0 < bo by omega)
      have F1 := rfloor_ok au ao w qa q0 q2 qa2
      have F2 := rfloor_ok bu bo w qb q1 q3 qb2
      have L1 := left_ok au ao w qa qa2
      have L2 := left_ok bu bo w qb qb2
      have SN : Hid (Small (k + 1) ao (au % ao)) := by
        rcases Nat.eq_zero_or_pos k with h | h
        · subst h; exact small_first au ao qa qa2
        · exact small_next k au ao h qa HS.out
      clear HS
      generalize au / ao = p at *
      generalize bu / bo = q at *
      generalize au % ao = r at *
      generalize bu % bo = s at *
      have G1 := hide F1
      have G2 := hide F2
      have M1 := hide L1
      have M2 := hide L2
      have Q1 := hide P1
      have Q2 := hide P2
      have Q3 := hide P3
      clear F1 F2 L1 L2 P1 P2 P3
      go_wp2_with fail
      refine G1.out.mono ?_
      rintro e w ⟨rfl, rfl⟩
      go_wp2_with fail
      refine G2.out.mono ?_
      rintro e w ⟨rfl, rfl⟩
      by_cases hpq : p < q
      · go_wp2
        go_ret
        exact ⟨ret_int (by rw [HC.out, Q1.out hpq]; omega), rfl⟩
      · by_cases hqp : q < p
        · go_wp2
          go_ret
          exact ⟨ret_int (by rw [HC.out, Q2.out hqp]; omega), rfl⟩
        · have hc := Q3.out (by omega)
          have HC2 := hide hc
          clear hc Q1 Q2 Q3
          go_wp2_with fail
          refine M1.out.mono ?_
          rintro e w ⟨rfl, rfl⟩
          go_wp2_with fail
          refine M2.out.mono ?_
          rintro e w ⟨rfl, rfl⟩
          clear G1 G2 M1 M2
          by_cases hr : r = 0
          · by_cases hs : s = 0
            · subst hr hs
              go_wp2
              go_ret
              refine ⟨ret_int ?_, rfl⟩
              rw [HC.out, HC2.out, Int.zero_mul, Int.zero_mul]
              simp [cmp3]
            · have hsb : (s == 0) = false := by simpa using hs
              subst hr
              go_wp2
              go_ret
              refine ⟨ret_int ?_, rfl⟩
              have hp := Int.mul_pos (show 0 < s by omega) (show 0 < ao by omega)
              rw [HC.out, HC2.out, Int.zero_mul, show cmp3 0 (s * ao) = -1 by unfold cmp3; rw [if_pos hp]]
              omega
          · have hrb : (r == 0) = false := by simpa using hr
            by_cases hs : s = 0
            · subst hs
              go_wp2
              go_ret
              refine ⟨ret_int ?_, rfl⟩
              have hp := Int.mul_pos (show 0 < r by omega) (show 0 < bo by omega)
              rw [HC.out, HC2.out, Int.zero_mul, show cmp3 (r * bo) 0 = 1 by unfold cmp3; rw [if_neg (by omega), if_pos hp]]
              omega
            · have hsb : (s == 0) = false := by simpa using hs
              go_wp2
              go_round
              case rel => exact ⟨k + 1, ao, r, bo, s, 0 - sg, rfl, rfl, rfl, rfl, by go_num, by go_num, by omega, by omega, by omega, by omega, by omega, by omega, by omega, by omega, by omega, by omega, by omega, SN, hide (by
                rw [HC.out, HC2.out, Int.mul_comm ao s, Int.mul_comm bo r, cmp3_swap (r * bo) (s * ao), Int.zero_sub, Int.zero_sub, Int.neg_mul_neg])⟩
              case measure => simp [intOf]; omega

    · obtain rfl : k = 200 := by omega
      exact (small_end au ao qa HS.out).elim

end Go.Proofs.Ytafokllnelibcaa
