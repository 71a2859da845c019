/- Contracts of the small functions of ray. -/
import Derived.Test.YtafokllnelibcaaWS
namespace Go.Proofs.Ytafokllnelibcaa
open Go.RowKit Go.Lib

theorem dt {p : Prop} [Decidable p] (h : p) : true = decide p := (decide_eq_true h).symm
theorem df {p : Prop} [Decidable p] (h : ¬ p) : false = decide p := (decide_eq_false h).symm
theorem dd {p q : Prop} [Decidable p] [Decidable q] (h : q ↔ p) : decide q = decide p := decide_eq_decide.2 h

def canP (x y : Int) : Prop := 0 ≤ x ∧ x ≤ 1023 ∧ 0 ≤ y ∧ y ≤ 1023
instance (x y : Int) : Decidable (canP x y) := by unfold canP; infer_instance
theorem can_any (x y : Int) (w : World) : Calls Try.prog 43 #[.agg #[.int .i64 x, .int .i64 y]] w fun e w' => e = .returned (.bool (decide (canP x y))) ∧ Below w.heap.size w w' := by
  go_enter Try.func43, Try.ntmps43
  go_wp2
  all_goals
    go_ret
    refine ⟨ret_bool ?_, ?_⟩
    · first | exact dd (by unfold canP; omega) | exact df (by unfold canP; omega) | exact dt (by unfold canP; omega)
    · first | exact (Below.refl _ _).alloc (Nat.le_refl _) _ | exact Below.refl _ _

def apD (f t : Int) : Int := if t < f then f - t else t - f
def apS (f t : Int) : Int := if t < f then -1 else 1
theorem apart_any (f t : Int) (w : World) (h0 : 0 ≤ f) (h1 : f ≤ 1023) (h2 : 0 ≤ t) (h3 : t ≤ 1023) : Calls Try.prog 53 #[.int .i64 f, .int .i64 t] w fun e w' => e = .returned (.tuple #[.int .i64 (apD f t), .int .i64 (apS f t)]) ∧ w = w' := by
  unfold apD apS
  by_cases h : t < f
  · rw [if_pos h, if_pos h]
    go_enter Try.func53, Try.ntmps53
    go_wp2
    go_ret2
    exact ⟨rfl, rfl⟩
  · rw [if_neg h, if_neg h]
    go_enter Try.func53, Try.ntmps53
    go_wp2
    go_ret2
    exact ⟨rfl, rfl⟩
theorem apD_rng (f t : Int) (h0 : 0 ≤ f) (h1 : f ≤ 1023) (h2 : 0 ≤ t) (h3 : t ≤ 1023) : 0 ≤ apD f t ∧ apD f t ≤ 1023 := by
  unfold apD; split <;> omega

theorem between_any (ax ay bx b_y dx sx dy sy L A : Int) (b : Bool) (w : World) (h : canP ax ay) (h' : canP bx b_y) (e1 : Hid (apD ax bx = dx)) (e2 : Hid (apS ax bx = sx)) (e3 : Hid (apD ay b_y = dy)) (e4 : Hid (apS ay b_y = sy)) (hL : Hid ((dy ≤ dx → b = true ∧ L = dx ∧ A = dy) ∧ (dx < dy → b = false ∧ L = dy ∧ A = dx))) :
    Calls Try.prog 44 #[.agg #[.int .i64 ax, .int .i64 ay], .agg #[.int .i64 bx, .int .i64 b_y]] w fun e w' => e = .returned (.agg #[.int .i64 ax, .int .i64 ay, .int .i64 sx, .int .i64 sy, .int .i64 L, .int .i64 A, .bool b]) ∧ Below w.heap.size w w' := by
  unfold canP at h h'
  go_enter Try.func44, Try.ntmps44
  go_wp2_with fail
  refine (apart_any _ _ _ (by omega) (by omega) (by omega) (by omega)).mono ?_
  rintro e w1 ⟨rfl, rfl⟩
  rw [e1.out, e2.out]
  go_wp2_with fail
  refine (apart_any _ _ _ (by omega) (by omega) (by omega) (by omega)).mono ?_
  rintro e w1 ⟨rfl, rfl⟩
  rw [e3.out, e4.out]
  go_wp2_with fail
  all_goals
    by_cases hc : dy ≤ dx
    · first
      | (exfalso; omega)
      | (obtain ⟨q1, q2, q3⟩ := hL.out.1 hc
         refine bodyPost_ret (v := .agg #[.int .i64 ax, .int .i64 ay, .int .i64 sx, .int .i64 sy, .int .i64 L, .int .i64 A, .bool b]) ?_ rfl ⟨rfl, by repeat first | exact Below.refl _ _ | refine below_put ?_⟩
         rw [q1, q2, q3]
         simp [results, Try.results44, go_sem, hc]
         try omega)
    · first
      | (exfalso; omega)
      | (obtain ⟨q1, q2, q3⟩ := hL.out.2 (by omega)
         refine bodyPost_ret (v := .agg #[.int .i64 ax, .int .i64 ay, .int .i64 sx, .int .i64 sy, .int .i64 L, .int .i64 A, .bool b]) ?_ rfl ⟨rfl, by repeat first | exact Below.refl _ _ | refine below_put ?_⟩
         rw [q1, q2, q3]
         simp [results, Try.results44, go_sem, hc]
         try omega)

theorem at_zero (x y r d A i : Int) (b : Bool) (w : World) :
    Calls Try.prog 45 #[.agg #[.int .i64 x, .int .i64 y, .int .i64 r, .int .i64 d, .int .i64 0, .int .i64 A, .bool b], .int .i64 i] w fun e w' => e = .returned (.agg #[.int .i64 x, .int .i64 y]) ∧ Below w.heap.size w w' := by
  go_enter Try.func45, Try.ntmps45
  go_wp2_with fail
  exact bodyPost_ret (v := .agg #[.int .i64 x, .int .i64 y]) (by simp [results, Try.results45, go_sem]) rfl ⟨rfl, by repeat first | exact Below.refl _ _ | refine below_put ?_⟩

/-- A ray's cell of the number i: along with whole steps, aside with rounded ones. -/
theorem at_wide (x y r d L A i P s p1 p2 : Int) (w : World) (hx0 : 0 ≤ x) (hx1 : x ≤ 1023) (hy0 : 0 ≤ y) (hy1 : y ≤ 1023) (hL : 1 ≤ L) (hL1 : L ≤ 1023) (hi : 0 ≤ i) (hi1 : i ≤ 1023) (hP : 2 * i * A = P) (hP0 : 0 ≤ P) (hP1 : P ≤ 2100000)
    (hs : (P + L) / (2 * L) = s) (hs0 : 0 ≤ s) (hs1 : s ≤ 1023) (h1 : i * r = p1) (h1a : -1023 ≤ p1) (h1b : p1 ≤ 1023) (h2 : s * d = p2) (h2a : -1023 ≤ p2) (h2b : p2 ≤ 1023) :
    Calls Try.prog 45 #[.agg #[.int .i64 x, .int .i64 y, .int .i64 r, .int .i64 d, .int .i64 L, .int .i64 A, .bool true], .int .i64 i] w fun e w' => e = .returned (.agg #[.int .i64 (x + p1), .int .i64 (y + p2)]) ∧ Below w.heap.size w w' := by
  have hL0 : (L == 0) = false := by rw [beq_eq_false_iff_ne]; omega
  have hL2 : ¬ (2 * L = 0) := by omega
  have hL3 : (2 * L == 0) = false := by rw [beq_eq_false_iff_ne]; omega
  go_enter Try.func45, Try.ntmps45
  go_wp2_with fail
  exact bodyPost_ret (v := .agg #[.int .i64 (x + p1), .int .i64 (y + p2)]) (by simp [results, Try.results45, go_sem]) rfl ⟨rfl, by repeat first | exact Below.refl _ _ | refine below_put ?_⟩
theorem at_tall (x y r d L A i P s p1 p2 : Int) (w : World) (hx0 : 0 ≤ x) (hx1 : x ≤ 1023) (hy0 : 0 ≤ y) (hy1 : y ≤ 1023) (hL : 1 ≤ L) (hL1 : L ≤ 1023) (hi : 0 ≤ i) (hi1 : i ≤ 1023) (hP : 2 * i * A = P) (hP0 : 0 ≤ P) (hP1 : P ≤ 2100000)
    (hs : (P + L) / (2 * L) = s) (hs0 : 0 ≤ s) (hs1 : s ≤ 1023) (h1 : s * r = p1) (h1a : -1023 ≤ p1) (h1b : p1 ≤ 1023) (h2 : i * d = p2) (h2a : -1023 ≤ p2) (h2b : p2 ≤ 1023) :
    Calls Try.prog 45 #[.agg #[.int .i64 x, .int .i64 y, .int .i64 r, .int .i64 d, .int .i64 L, .int .i64 A, .bool false], .int .i64 i] w fun e w' => e = .returned (.agg #[.int .i64 (x + p1), .int .i64 (y + p2)]) ∧ Below w.heap.size w w' := by
  have hL0 : (L == 0) = false := by rw [beq_eq_false_iff_ne]; omega
  have hL2 : ¬ (2 * L = 0) := by omega
  have hL3 : (2 * L == 0) = false := by rw [beq_eq_false_iff_ne]; omega
  go_enter Try.func45, Try.ntmps45
  go_wp2_with fail
  exact bodyPost_ret (v := .agg #[.int .i64 (x + p1), .int .i64 (y + p2)]) (by simp [results, Try.results45, go_sem]) rfl ⟨rfl, by repeat first | exact Below.refl _ _ | refine below_put ?_⟩
end Go.Proofs.Ytafokllnelibcaa
