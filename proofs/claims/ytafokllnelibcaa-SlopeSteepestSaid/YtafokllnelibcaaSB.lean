/- Contracts of slope.compare, Right, Cmp, Floor. -/
import Derived.Test.YtafokllnelibcaaSA
import Derived.Deep.RegionWith
import Derived.StillTailTactics
namespace Go.Proofs.Ytafokllnelibcaa
open Go.RowKit Go.Lib

theorem cmp3_parts (x y : Nat) : (if cmp3 ((x / 18446744073709551616 : Nat) : Int) ((y / 18446744073709551616 : Nat) : Int) = 0 then cmp3 ((x % 18446744073709551616 : Nat) : Int) ((y % 18446744073709551616 : Nat) : Int) else cmp3 ((x / 18446744073709551616 : Nat) : Int) ((y / 18446744073709551616 : Nat) : Int)) = cmp3 (x : Int) (y : Int) := by
  unfold cmp3
  have h1 := Nat.div_add_mod x 18446744073709551616
  have h2 := Nat.div_add_mod y 18446744073709551616
  have h3 : x % 18446744073709551616 < 18446744073709551616 := Nat.mod_lt _ (by decide)
  have h4 : y % 18446744073709551616 < 18446744073709551616 := Nat.mod_lt _ (by decide)
  generalize x / 18446744073709551616 = a at *
  generalize y / 18446744073709551616 = b at *
  generalize x % 18446744073709551616 = c at *
  generalize y % 18446744073709551616 = d at *
  subst h1 h2
  repeat' split
  all_goals omega

set_option maxHeartbeats 1000000 in
theorem compare_any (a b c d : Nat) (ha : a < 18446744073709551616) (hb : b ≤ 9223372036854775807) (hc : c < 18446744073709551616) (hd : d ≤ 9223372036854775807) (w : World) :
    Calls Try.prog 48 #[.int .u64 a, .int .i64 b, .int .u64 c, .int .i64 d] w fun e w' => e = .returned (.int .i64 (cmp3 ((a : Int) * d) ((c : Int) * b))) ∧ Below w.heap.size w w' := by
  have q1 : a * d / 18446744073709551616 ≤ 18446744073709551615 := by
    have : a * d / 18446744073709551616 < 18446744073709551616 := Nat.div_lt_of_lt_mul (Nat.mul_lt_mul_of_lt_of_le ha (by omega) (by decide))
    omega
  have q2 : a * d % 18446744073709551616 ≤ 18446744073709551615 := by have := Nat.mod_lt (a * d) (show 0 < 18446744073709551616 by decide); omega
  have q3 : c * b / 18446744073709551616 ≤ 18446744073709551615 := by
    have : c * b / 18446744073709551616 < 18446744073709551616 := Nat.div_lt_of_lt_mul (Nat.mul_lt_mul_of_lt_of_le hc (by omega) (by decide))
    omega
  have q4 : c * b % 18446744073709551616 ≤ 18446744073709551615 := by have := Nat.mod_lt (c * b) (show 0 < 18446744073709551616 by decide); omega
  have E := hide (cmp3_parts (a * d) (c * b))
  go_enter Try.func48, Try.ntmps48
  go_wp2_with fail
  refine (mul64 a d ha (by omega) w).mono ?_
  rintro e w ⟨rfl, rfl⟩
  generalize a * d / 18446744073709551616 = H1 at *
  generalize a * d % 18446744073709551616 = L1 at *
  go_wp2_with fail
  refine (mul64 c b hc (by omega) w).mono ?_
  rintro e w ⟨rfl, rfl⟩
  generalize c * b / 18446744073709551616 = H2 at *
  generalize c * b % 18446744073709551616 = L2 at *
  go_wp2_with fail
  refine (cmp_u64 H1 H2 w (by omega) (by omega) (by omega) (by omega)).mono ?_
  rintro e w ⟨rfl, rfl⟩
  go_wp2_with fail
  refine (cmp_u64 L1 L2 w (by omega) (by omega) (by omega) (by omega)).mono ?_
  rintro e w ⟨rfl, rfl⟩
  go_wp2_with fail
  refine (or2 w.heap.size _ _ _ (by rw [World.cell?_alloc_at _ _ _ _ rfl]; rfl) (by rw [World.cell?_alloc_at _ _ _ _ rfl]; rfl)).mono ?_
  rintro e w1 ⟨rfl, rfl⟩
  go_wp2
  all_goals
    go_ret
    refine ⟨ret_int ?_, (Below.refl _ _).alloc (Nat.le_refl _) _⟩
    rw [← Int.natCast_mul, ← Int.natCast_mul, ← E.out]
    first | rw [if_pos ‹_›] | rw [if_neg ‹_›]

theorem right_any (u o : Int) (w : World) :
    Calls Try.prog 35 #[.agg #[.int .i64 u, .int .i64 o]] w fun e w' => e = .returned (.bool (decide (1 ≤ o))) ∧ Below w.heap.size w w' := by
  go_enter Try.func35, Try.ntmps35
  go_wp2
  go_ret
  exact ⟨rfl, (Below.refl _ _).alloc (Nat.le_refl _) _⟩

theorem floor_facts (u o : Int) (ho : 1 ≤ o) : (u.tmod o < 0 → u / o = u.tdiv o - 1) ∧ (0 ≤ u.tmod o → u / o = u.tdiv o) := by
  have h1 := Int.tdiv_eq_ediv (a := u) (b := o)
  have h2 := Int.tmod_eq_emod (a := u) (b := o)
  have h3 := Int.emod_nonneg u (show o ≠ 0 by omega)
  have h4 := Int.emod_lt_of_pos u (show 0 < o by omega)
  rw [Int.sign_eq_one_of_pos (by omega)] at h1
  by_cases h : 0 ≤ u ∨ o ∣ u
  · rw [if_pos h] at h1 h2
    constructor <;> intro h5 <;> omega
  · rw [if_neg h] at h1 h2
    constructor <;> intro h5 <;> omega
theorem floor_rng (u o : Int) (ho : 1 ≤ o) (h0 : -9223372036854775808 ≤ u) (h1 : u ≤ 9223372036854775807) : -9223372036854775808 ≤ u / o ∧ u / o ≤ 9223372036854775807 := by
  have hm := Int.mul_ediv_add_emod u o
  have h3 := Int.emod_nonneg u (show o ≠ 0 by omega)
  have h4 := Int.emod_lt_of_pos u (show 0 < o by omega)
  generalize u / o = q at *
  generalize u % o = r at *
  have e : (o - 1) * q = o * q - q := by rw [Int.sub_mul, Int.one_mul]
  have e2 : (o - 1) * (q + 1) = o * q + o - q - 1 := by rw [Int.sub_mul, Int.one_mul, Int.mul_add, Int.mul_one]; omega
  constructor
  · by_cases h : q < -9223372036854775808
    · have := Int.mul_nonneg (show 0 ≤ o - 1 by omega) (show 0 ≤ -(q + 1) by omega)
      rw [Int.mul_neg, e2] at this
      omega
    · omega
  · by_cases h : 9223372036854775807 < q
    · have := Int.mul_nonneg (show 0 ≤ o - 1 by omega) (show 0 ≤ q by omega)
      rw [e] at this
      omega
    · omega

theorem floor_bad (u o : Int) (w : World) (h : o < 1) :
    Calls Try.prog 34 #[.agg #[.int .i64 u, .int .i64 o]] w fun e w' => e = .returned (.tuple #[.int .i64 0, .int .i64 13]) ∧ Below w.heap.size w w' := by
  have hd : decide (1 ≤ o) = false := by simp; omega
  go_enter Try.func34, Try.ntmps34
  go_wp2
  go_ret2
  exact ⟨rfl, ((Below.refl _ _).alloc (Nat.le_refl _) _).alloc (by simp) _⟩

theorem floor_ok (u o : Int) (w : World) (h : 1 ≤ o) (h0 : -9223372036854775808 ≤ u) (h1 : u ≤ 9223372036854775807) (h2 : o ≤ 9223372036854775807) :
    Calls Try.prog 34 #[.agg #[.int .i64 u, .int .i64 o]] w fun e w' => e = .returned (.tuple #[.int .i64 (u / o), .int .i64 0]) ∧ Below w.heap.size w w' := by
  have hd : decide (1 ≤ o) = true := by simpa using h
  obtain ⟨F1, F2⟩ := floor_facts u o h
  obtain ⟨R1, R2⟩ := floor_rng u o h h0 h1
  by_cases hm : u.tmod o < 0
  · have hq := F1 hm
    have hq1 : -9223372036854775808 ≤ u.tdiv o - 1 := by omega
    have hq2 : u.tdiv o ≤ 9223372036854775807 := by
      have := Int.tdiv_eq_ediv (a := u) (b := o)
      have hneg : u < 0 := by
        by_cases h : u < 0
        · exact h
        · rw [Int.tmod_eq_emod_of_nonneg (show 0 ≤ u by omega)] at hm
          have := Int.emod_nonneg u (show o ≠ 0 by omega)
          omega
      have := Int.ediv_neg_of_neg_of_pos hneg (show 0 < o by omega)
      omega
    have HQ := hide hq
    clear hq F1 F2 R1 R2
    go_enter Try.func34, Try.ntmps34
    go_wp2
    go_ret2
    exact ⟨by rw [HQ.out]; rfl, ((Below.refl _ _).alloc (Nat.le_refl _) _).alloc (by simp) _⟩
  · have hq := F2 (by omega)
    have hq1 : -9223372036854775808 ≤ u.tdiv o := by omega
    have hq2 : u.tdiv o ≤ 9223372036854775807 := by omega
    have HQ := hide hq
    clear hq F1 F2 R1 R2
    go_enter Try.func34, Try.ntmps34
    go_wp2
    go_ret2
    exact ⟨by rw [HQ.out]; rfl, ((Below.refl _ _).alloc (Nat.le_refl _) _).alloc (by simp) _⟩

theorem size_s (n : Int) (w : World) (h1 : -9223372036854775808 ≤ n) (h2 : n ≤ 9223372036854775807) :
    Calls Try.prog 49 #[.int .i64 n] w fun e w' => e = .returned (.int .u64 (n.natAbs : Int)) ∧ w' = w := (size_any n w h1 h2).mono fun _ _ ⟨h, h2⟩ => ⟨h, h2.symm⟩

theorem cmp3_neg (au : Int) (B : Nat) (bu : Int) (A : Nat) (h1 : au < 0) (h2 : bu < 0) : cmp3 ((bu.natAbs : Int) * A) ((au.natAbs : Int) * B) = cmp3 (au * B) (bu * A) := by
  rw [show ((bu.natAbs : Nat) : Int) = -bu by omega, show ((au.natAbs : Nat) : Int) = -au by omega, Int.neg_mul, Int.neg_mul]
  unfold cmp3
  repeat' split
  all_goals omega
theorem cmp3_pos (au : Int) (B : Nat) (bu : Int) (A : Nat) (h1 : 0 ≤ au) (h2 : 0 ≤ bu) : cmp3 ((au.natAbs : Int) * B) ((bu.natAbs : Int) * A) = cmp3 (au * B) (bu * A) := by
  rw [show ((bu.natAbs : Nat) : Int) = bu by omega, show ((au.natAbs : Nat) : Int) = au by omega]
theorem cmp3_mix (au bu ao bo : Int) (ha : 1 ≤ ao) (hb : 1 ≤ bo) (h : (au < 0 ∧ 0 ≤ bu) ∨ (0 ≤ au ∧ bu < 0)) : cmp3 au bu = cmp3 (au * bo) (bu * ao) := by
  have key : ∀ x y : Int, 1 ≤ y → (x < 0 → x * y < 0) ∧ (0 ≤ x → 0 ≤ x * y) := fun x y hy => ⟨fun hx => Int.mul_neg_of_neg_of_pos hx (by omega), fun hx => Int.mul_nonneg hx (by omega)⟩
  have h1 := key au bo hb
  have h2 := key bu ao ha
  unfold cmp3
  repeat' split
  all_goals omega

theorem cmp_bad (au ao bu bo : Int) (w : World) (h : ao < 1 ∨ bo < 1) :
    Calls Try.prog 33 #[.agg #[.int .i64 au, .int .i64 ao], .agg #[.int .i64 bu, .int .i64 bo]] w fun e w' => e = .returned (.tuple #[.int .i64 0, .int .i64 13]) ∧ Below w.heap.size w w' := by
  by_cases ha : ao < 1
  · have hd : decide (1 ≤ ao) = false := by simp; omega
    go_enter Try.func33, Try.ntmps33
    go_wp2_with (go_at_call 35; go_in)
    go_ret2
    exact ⟨rfl, (((Below.refl _ _).alloc (Nat.le_refl _) _).alloc (by simp) _).alloc (by simp; omega) _⟩
  · have hb : bo < 1 := by omega
    have hd : decide (1 ≤ ao) = true := by simp; omega
    have hd2 : decide (1 ≤ bo) = false := by simp; omega
    go_enter Try.func33, Try.ntmps33
    go_wp2_with (go_at_call 35; go_in)
    go_ret2
    exact ⟨rfl, ((((Below.refl _ _).alloc (Nat.le_refl _) _).alloc (by simp) _).alloc (by simp; omega) _).alloc (by simp; omega) _⟩

set_option maxHeartbeats 1000000 in
theorem cmp_neg (au ao bu bo : Int) (w : World) (ha : 1 ≤ ao) (hb : 1 ≤ bo) (ha2 : ao ≤ 9223372036854775807) (hb2 : bo ≤ 9223372036854775807) (hau : au < 0) (hbu : bu < 0) (h0 : -9223372036854775808 ≤ au) (h1 : -9223372036854775808 ≤ bu) :
    Calls Try.prog 33 #[.agg #[.int .i64 au, .int .i64 ao], .agg #[.int .i64 bu, .int .i64 bo]] w fun e w' => e = .returned (.tuple #[.int .i64 (cmp3 (au * bo) (bu * ao)), .int .i64 0]) ∧ Below w.heap.size w w' := by
  obtain ⟨A, rfl⟩ : ∃ A : Nat, ao = A := ⟨ao.toNat, by omega⟩
  obtain ⟨B, rfl⟩ : ∃ B : Nat, bo = B := ⟨bo.toNat, by omega⟩
  have hd : decide (1 ≤ (A : Int)) = true := by simp; omega
  have hd2 : decide (1 ≤ (B : Int)) = true := by simp; omega
  go_enter Try.func33, Try.ntmps33
  go_wp2_with (go_at_call 35; go_in)
  generalize hW : (((w.alloc (Obj.cells #[Value.int IntKind.i64 au, Value.int IntKind.i64 ↑A] 51)).alloc (Obj.cells #[Value.int IntKind.i64 bu, Value.int IntKind.i64 ↑B] 51)).alloc (Obj.cells #[Value.int IntKind.i64 au, Value.int IntKind.i64 ↑A] 51)).alloc (Obj.cells #[Value.int IntKind.i64 bu, Value.int IntKind.i64 ↑B] 51) = W
  have hBW : Below w.heap.size w W := by
    rw [← hW]
    exact ((((Below.refl _ _).alloc (Nat.le_refl _) _).alloc (by simp) _).alloc (by simp; omega) _).alloc (by simp; omega) _
  have c0 : W.drew.cell? ⟨w.heap.size, 0, none⟩ = some (.int .i64 au) := by subst hW; go_simp
  have c1 : W.drew.cell? ⟨w.heap.size, 1, none⟩ = some (.int .i64 A) := by subst hW; go_simp
  have c2 : W.drew.cell? ⟨w.heap.size + 1, 0, none⟩ = some (.int .i64 bu) := by subst hW; go_simp
  have c3 : W.drew.cell? ⟨w.heap.size + 1, 1, none⟩ = some (.int .i64 B) := by subst hW; go_simp
  clear hW
  refine wp_region_still_tail 10 (by kernel_rfl) (by kernel_rfl) ?_
  simp only [List.take_succ_cons, List.take_zero, List.drop_succ_cons, List.drop_zero]
  show wpStill Try.prog _ W.drew (fun a' => wpList Try.prog _ _ _ a' W.drew) _ _
  have hBV := hBW.drew
  generalize W.drew = V at *
  repeat still_step
  still_call (size_s bu V (by omega) (by omega))
  repeat still_step
  still_call (size_s au V (by omega) (by omega))
  repeat still_step
  refine wpStill_nil ?_
  clear c0 c1 c2 c3 hBW
  go_wp2_with fail
  refine (compare_any bu.natAbs B au.natAbs A (by omega) (by omega) (by omega) (by omega) V).mono ?_
  rintro e w1 ⟨rfl, hb1⟩
  have E := hide (cmp3_neg au B bu A hau hbu)
  go_wp2
  go_ret2
  refine ⟨?_, hBV.trans (hb1.mono hBV.size)⟩
  rw [← E.out]
  rfl

set_option maxHeartbeats 1000000 in
theorem cmp_pos (au ao bu bo : Int) (w : World) (ha : 1 ≤ ao) (hb : 1 ≤ bo) (ha2 : ao ≤ 9223372036854775807) (hb2 : bo ≤ 9223372036854775807) (hau : 0 ≤ au) (hbu : 0 ≤ bu) (h0 : au ≤ 9223372036854775807) (h1 : bu ≤ 9223372036854775807) :
    Calls Try.prog 33 #[.agg #[.int .i64 au, .int .i64 ao], .agg #[.int .i64 bu, .int .i64 bo]] w fun e w' => e = .returned (.tuple #[.int .i64 (cmp3 (au * bo) (bu * ao)), .int .i64 0]) ∧ Below w.heap.size w w' := by
  obtain ⟨A, rfl⟩ : ∃ A : Nat, ao = A := ⟨ao.toNat, by omega⟩
  obtain ⟨B, rfl⟩ : ∃ B : Nat, bo = B := ⟨bo.toNat, by omega⟩
  have hd : decide (1 ≤ (A : Int)) = true := by simp; omega
  have hd2 : decide (1 ≤ (B : Int)) = true := by simp; omega
  go_enter Try.func33, Try.ntmps33
  go_wp2_with (go_at_call 35; go_in)
  generalize hW : (((w.alloc (Obj.cells #[Value.int IntKind.i64 au, Value.int IntKind.i64 ↑A] 51)).alloc (Obj.cells #[Value.int IntKind.i64 bu, Value.int IntKind.i64 ↑B] 51)).alloc (Obj.cells #[Value.int IntKind.i64 au, Value.int IntKind.i64 ↑A] 51)).alloc (Obj.cells #[Value.int IntKind.i64 bu, Value.int IntKind.i64 ↑B] 51) = W
  have hBW : Below w.heap.size w W := by
    rw [← hW]
    exact ((((Below.refl _ _).alloc (Nat.le_refl _) _).alloc (by simp) _).alloc (by simp; omega) _).alloc (by simp; omega) _
  have c0 : W.drew.cell? ⟨w.heap.size, 0, none⟩ = some (.int .i64 au) := by subst hW; go_simp
  have c1 : W.drew.cell? ⟨w.heap.size, 1, none⟩ = some (.int .i64 A) := by subst hW; go_simp
  have c2 : W.drew.cell? ⟨w.heap.size + 1, 0, none⟩ = some (.int .i64 bu) := by subst hW; go_simp
  have c3 : W.drew.cell? ⟨w.heap.size + 1, 1, none⟩ = some (.int .i64 B) := by subst hW; go_simp
  clear hW
  refine wp_region_still_tail 10 (by kernel_rfl) (by kernel_rfl) ?_
  simp only [List.take_succ_cons, List.take_zero, List.drop_succ_cons, List.drop_zero]
  show wpStill Try.prog _ W.drew (fun a' => wpList Try.prog _ _ _ a' W.drew) _ _
  have hBV := hBW.drew
  generalize W.drew = V at *
  repeat still_step
  still_call (size_s au V (by omega) (by omega))
  repeat still_step
  still_call (size_s bu V (by omega) (by omega))
  repeat still_step
  refine wpStill_nil ?_
  clear c0 c1 c2 c3 hBW
  go_wp2_with fail
  refine (compare_any au.natAbs A bu.natAbs B (by omega) (by omega) (by omega) (by omega) V).mono ?_
  rintro e w1 ⟨rfl, hb1⟩
  have E := hide (cmp3_pos au B bu A hau hbu)
  go_wp2
  go_ret2
  refine ⟨?_, hBV.trans (hb1.mono hBV.size)⟩
  rw [← E.out]
  rfl

set_option maxHeartbeats 1000000 in
theorem cmp_mix (au ao bu bo : Int) (w : World) (ha : 1 ≤ ao) (hb : 1 ≤ bo) (h : (au < 0 ∧ 0 ≤ bu) ∨ (0 ≤ au ∧ bu < 0)) (h0 : -9223372036854775808 ≤ au) (h1 : -9223372036854775808 ≤ bu) (h2 : au ≤ 9223372036854775807) (h3 : bu ≤ 9223372036854775807) :
    Calls Try.prog 33 #[.agg #[.int .i64 au, .int .i64 ao], .agg #[.int .i64 bu, .int .i64 bo]] w fun e w' => e = .returned (.tuple #[.int .i64 (cmp3 (au * bo) (bu * ao)), .int .i64 0]) ∧ Below w.heap.size w w' := by
  have hd : decide (1 ≤ ao) = true := by simp; omega
  have hd2 : decide (1 ≤ bo) = true := by simp; omega
  have E := hide (cmp3_mix au bu ao bo ha hb h)
  rcases h with ⟨h, h'⟩ | ⟨h, h'⟩
  · go_enter Try.func33, Try.ntmps33
    go_wp2_with (first
      | (go_at_call 35; go_in)
      | (go_at_call 50; refine (cmp_i64 au bu _ h0 h2 h1 h3).mono ?_; rintro e w' ⟨rfl, rfl⟩))
    go_ret2
    exact ⟨by rw [← E.out]; rfl, ((((Below.refl _ _).alloc (Nat.le_refl _) _).alloc (by simp) _).alloc (by simp; omega) _).alloc (by simp; omega) _⟩
  · go_enter Try.func33, Try.ntmps33
    go_wp2_with (first
      | (go_at_call 35; go_in)
      | (go_at_call 50; refine (cmp_i64 au bu _ h0 h2 h1 h3).mono ?_; rintro e w' ⟨rfl, rfl⟩))
    go_ret2
    exact ⟨by rw [← E.out]; rfl, ((((Below.refl _ _).alloc (Nat.le_refl _) _).alloc (by simp) _).alloc (by simp; omega) _).alloc (by simp; omega) _⟩

theorem cmp_ok (au ao bu bo : Int) (w : World) (ha : 1 ≤ ao) (hb : 1 ≤ bo) (ha2 : ao ≤ 9223372036854775807) (hb2 : bo ≤ 9223372036854775807) (h0 : -9223372036854775808 ≤ au) (h1 : -9223372036854775808 ≤ bu) (h2 : au ≤ 9223372036854775807) (h3 : bu ≤ 9223372036854775807) :
    Calls Try.prog 33 #[.agg #[.int .i64 au, .int .i64 ao], .agg #[.int .i64 bu, .int .i64 bo]] w fun e w' => e = .returned (.tuple #[.int .i64 (cmp3 (au * bo) (bu * ao)), .int .i64 0]) ∧ Below w.heap.size w w' := by
  by_cases h : au < 0
  · by_cases h' : bu < 0
    · exact cmp_neg au ao bu bo w ha hb ha2 hb2 h h' h0 h1
    · exact cmp_mix au ao bu bo w ha hb (.inl ⟨h, by omega⟩) h0 h1 h2 h3
  · by_cases h' : bu < 0
    · exact cmp_mix au ao bu bo w ha hb (.inr ⟨by omega, h'⟩) h0 h1 h2 h3
    · exact cmp_pos au ao bu bo w ha hb ha2 hb2 (by omega) (by omega) h2 h3

end Go.Proofs.Ytafokllnelibcaa
