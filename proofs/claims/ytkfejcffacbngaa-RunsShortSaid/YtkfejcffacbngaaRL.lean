import Derived.Test.YtkfejcffacbngaaRK

namespace Go.Proofs.Ytkfejcffacbngaa.J

open Go Go.Sym

set_option linter.unusedVariables false

theorem foldM_val {x : Int} (h0 : -9223372036854775808 ≤ x) (h1 : x ≤ 9223372036854775807) : foldM x = if x < 0 then -2 * x - 1 else 2 * x := by
  have e2 : ∀ y : Int, binI .mul .u64 2 y = IntKind.u64.wrap (2 * y) := fun y => rfl
  have e3 : ∀ y : Int, binI .add .u64 y 1 = IntKind.u64.wrap (y + 1) := fun y => rfl
  unfold foldM
  split
  · have t1 : binI .add .i64 x 1 = x + 1 := wrap_i64 (by omega)
    have t2 : binI .sub .i64 0 (x + 1) = 0 - (x + 1) := wrap_i64 (by omega)
    have t3 : IntKind.u64.wrap (0 - (x + 1)) = 0 - (x + 1) := wrap_u64 (by omega)
    rw [t1, t2, t3, e2, wrap_u64 (by omega), e3, wrap_u64 (by omega)]
    omega
  · have t3 : IntKind.u64.wrap x = x := wrap_u64 (by omega)
    rw [t3, e2, wrap_u64 (by omega)]

theorem lebN_short : ∀ (j k : Nat) (u : Int), 0 ≤ u → u < 128 ^ (j + 1) → j ≤ k → (lebN k u).length ≤ j + 1 := by
  intro j
  induction j with
  | zero => intro k u h0 h1 _; rw [lebN_lt (by simpa using h1)]; simp
  | succ j ih =>
    intro k u h0 h1 hk
    obtain ⟨k, rfl⟩ : ∃ q, k = q + 1 := ⟨k - 1, by omega⟩
    by_cases h : u < 128
    · rw [lebN_lt h]; simp
    · rw [lebN_ge (by omega), List.length_cons]
      have := ih k (u / 128) (by omega) (by rw [Int.pow_succ] at h1; omega) (by omega)
      omega

theorem rl_le : ∀ (l : List Int), rl l ≤ l.length
  | [] => Nat.le_refl _
  | x :: l => by
    have h : ∀ l : List Int, zc l ≤ l.length := by
      intro l
      induction l with
      | nil => simp [zc]
      | cons y l ih => rw [zc]; split <;> simp <;> omega
    have := h l
    rw [rl]; split <;> simp <;> omega

theorem rl_one {x : Int} {l : List Int} (h : x ≠ 0) : rl (x :: l) = 1 := by rw [rl, if_neg h]

/-- Runs are few bytes: five a number, if no number is far from 0. -/
theorem lenS_few : ∀ (m : Nat) (zs : List Int), zs.length ≤ m → zs.length ≤ 1000 → (∀ x ∈ zs, -4294967295 ≤ x ∧ x ≤ 4294967295) → lenS (runsL zs) ≤ 5 * zs.length := by
  intro m
  induction m with
  | zero =>
    intro zs hm _ _
    obtain rfl : zs = [] := List.eq_nil_of_length_eq_zero (by omega)
    simp [runsL, runsF, lenS]
  | succ m ih =>
    intro zs hm h1000 hz
    cases zs with
    | nil => simp [runsL, runsF, lenS]
    | cons x l =>
      have hp := rl_pos (x := x) (l := l)
      have hle := rl_le (x :: l)
      have hx := hz x (List.mem_cons_self ..)
      have ih' := ih ((x :: l).drop (rl (x :: l))) (by simp at hm ⊢; omega) (by simp at h1000 ⊢; omega) (fun y hy => hz y (List.mem_of_mem_drop hy))
      rw [runsL_cons]
      have hs : lenS ((x, (rl (x :: l) : Int)) :: runsL ((x :: l).drop (rl (x :: l)))) = bumpL (x, (rl (x :: l) : Int)) + lenS (runsL ((x :: l).drop (rl (x :: l)))) := by simp [lenS]
      rw [hs]
      rw [List.length_drop] at ih'
      have hb : bumpL (x, (rl (x :: l) : Int)) ≤ 5 * rl (x :: l) := by
        have hv := foldM_val (x := x) (by omega) (by omega)
        unfold bumpL
        by_cases h0 : x = 0
        · subst h0
          rw [if_pos rfl]
          have e1 : IntKind.i64.wrap ((rl (0 :: l) : Int) - 1) = (rl (0 :: l) : Int) - 1 := wrap_i64 (by omega)
          have e2 : IntKind.u64.wrap ((rl (0 :: l) : Int) - 1) = (rl (0 :: l) : Int) - 1 := wrap_u64 (by omega)
          have l1 := lebN_short 0 10 (foldM 0) (by rw [hv]; simp) (by rw [hv]; simp) (by decide)
          have l2 := lebN_short 1 10 ((rl (0 :: l) : Int) - 1) (by omega) (by simp at h1000 hle ⊢; omega) (by decide)
          simp only [e1, e2]
          omega
        · rw [if_neg h0]
          have l1 := lebN_short 4 10 (foldM x) (by rw [hv]; split <;> omega) (by rw [hv]; simp; split <;> omega) (by decide)
          simp only
          omega
      omega

theorem zc_rep (n : Nat) : zc (List.replicate n 0) = n := by
  induction n with
  | zero => rfl
  | succ n ih => rw [List.replicate_succ, zc, if_pos rfl, ih]

/-- Noughts are cheap. -/
theorem lenS_zeros (n : Nat) (h : n ≤ 65536) : lenS (runsL (List.replicate n 0)) ≤ 4 := by
  cases n with
  | zero => simp [runsL, runsF, lenS]
  | succ n =>
    have hr : rl (0 :: List.replicate n 0) = n + 1 := by rw [rl, if_pos rfl, zc_rep]
    rw [List.replicate_succ, runsL_cons, hr, List.drop_eq_nil_of_le (by simp)]
    have hb : lenS ((0, ((n + 1 : Nat) : Int)) :: runsL []) = bumpL (0, ((n + 1 : Nat) : Int)) := by simp [lenS, runsL, runsF]
    rw [hb, bumpL, if_pos rfl]
    have hv := foldM_val (x := 0) (by decide) (by decide)
    have e1 : IntKind.i64.wrap (((n + 1 : Nat) : Int) - 1) = (n : Int) := by rw [wrap_i64 (by omega)]; omega
    have e2 : IntKind.u64.wrap (n : Int) = (n : Int) := wrap_u64 (by omega)
    have l1 := lebN_short 0 10 (foldM 0) (by rw [hv]; simp) (by rw [hv]; simp) (by decide)
    have l2 := lebN_short 2 10 (n : Int) (by omega) (by simp; omega) (by decide)
    simp only [e1, e2]
    omega

theorem awakeS : w8L ([] ++ putS (runsL [0, 0, 0, -1])) = [0, 2, 1] := by decide +kernel
theorem awakeS0 : 0 < ([] ++ putS (runsL [0, 0, 0, -1]) : List Int).length := by decide +kernel

end Go.Proofs.Ytkfejcffacbngaa.J
