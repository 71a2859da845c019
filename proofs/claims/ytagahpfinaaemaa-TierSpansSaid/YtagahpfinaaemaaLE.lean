import Derived.Test.YtagahpfinaaemaaLD
import Derived.Test.YtagahpfinaaemaaSyCd

namespace Go.Proofs.Ytagahpfinaaemaa

open Go Go.Sym

set_option linter.unusedVariables false

theorem tdN_bd {x : Int} (h : 0 ≤ x ∧ x ≤ 1024) : ∀ k, 0 ≤ tdN k x ∧ tdN k x ≤ 1024
  | 0 => h
  | k + 1 => by
    have := tdN_bd h k
    simp only [tdN, Int.tdiv_eq_ediv_of_nonneg this.1]; omega

theorem tdN_eq {x : Int} (h : 0 ≤ x ∧ x ≤ 1024) : ∀ k, tdN k x = x / 2 ^ k
  | 0 => by simp [tdN]
  | k + 1 => by
    have h1 := tdN_bd h k
    have h2 := tdN_eq h k
    have hp : (0 : Int) ≤ 2 ^ k := Int.le_of_lt (Int.pow_pos (by omega))
    rw [tdN, Int.tdiv_eq_ediv_of_nonneg h1.1, h2, Int.pow_succ]
    exact Int.ediv_ediv_of_nonneg hp

def invA (ls : List (List Int)) (i : Nat) (env : Env) : Prop := i = 0 ∧ ∃ k x y, ls = [[k], [x, y]] ∧ k ≤ 100 ∧ (0 ≤ x ∧ x ≤ 1024) ∧ (0 ≤ y ∧ y ≤ 1024) ∧ ∃ j : Nat, vInt (env.val 0) = k ∧ vInt (env.val 2) = j ∧ vInt (env.val 3) = tdN j x ∧ vInt (env.val 4) = tdN j y ∧ (j = 0 ∨ (j : Int) ≤ k)

theorem aboveRq_ok : PcOk Try.prog FNq pcAboveRq := by
  refine pc_floyd (cs := [cutAboveR]) mix pcAboveRq (fun _ _ => knOk_nil) (by decide) aboveR_rounds aboveR_entry invA (fun ls _ env => (0, (200 - vInt (env.val 2)).toNat)) (fun ls i env h => by have := h.1; simp; omega) ?_
  intro ls e0 hf hargs hrng hpre
  simp only [pcAboveRq, ArgsE, ArgE] at hargs
  obtain ⟨a, _, rfl, ha, b, _, rfl, ⟨hb, hl⟩, rfl⟩ := hargs
  obtain ⟨x, y, rfl⟩ := len2 hl
  obtain ⟨k, hk⟩ : ∃ n, vInt (e0.val 0) = n := ⟨_, rfl⟩
  simp only [Nat.zero_add, hk] at ha hb
  subst ha
  have hp : k ≤ 100 ∧ 0 ≤ x ∧ x ≤ 1024 ∧ 0 ≤ y ∧ y ≤ 1024 := by
    have := hpre.1
    simp only [FNq, g45, encB_headD] at this
    split at this
    · rename_i hq; exact of_decide_eq_true hq
    · omega
  refine ⟨fun env hfn => ⟨⟨fun _ => by simp only [AsOk_nil], trivial⟩, ⟨?_, trivial⟩⟩, ?_⟩
  · rintro ⟨_, k', x', y', hl, hk1, hx, hy, j, q0, q2, q3, q4, q5⟩
    simp only [List.cons.injEq, and_true] at hl
    obtain ⟨rfl, rfl, rfl⟩ := hl
    have bx := tdN_bd hx j
    have bY := tdN_bd hy j
    have cx := tdN_bd hx (j + 1)
    have cy := tdN_bd hy (j + 1)
    have ex : IntKind.i64.wrap ((tdN j x).tdiv 2) = tdN (j + 1) x := by simp only [tdN] at cx ⊢; exact wrap_i64 (by omega)
    have ey : IntKind.i64.wrap ((tdN j y).tdiv 2) = tdN (j + 1) y := by simp only [tdN] at cy ⊢; exact wrap_i64 (by omega)
    simp only [allLeaves, AsOk_cons, AsOk_nil, BE.eval, cmpI, IE.eval, IE.reval, q0, q2, and_true, decide_eq_true_eq, decide_eq_false_iff_not]
    refine ⟨fun hA => stepG_cut ⟨rfl, k, x, y, rfl, hk1, hx, hy, j + 1, ?_, ?_, ?_, ?_, by omega⟩ (Prod.lex_def.2 ?_), fun hA => ⟨[_], rfl, ⟨_, rfl, rfl, ?_⟩, rfl⟩⟩
    rotate_right
    · have : k.toNat = j := by omega
      simp only [IE.reval, IE.eval, q3, q4, FNq, FN, g29, pcAboveRq, this]
    all_goals simp (disch := omega) [upd, lk_cons, lk_nil, IE.eval, IE.reval, binI, q0, q2, q3, q4, ex, ey, vInt_int, wrap_i64]
    omega
  · simp only [allLeaves, AsOk_cons, AsOk_nil, BE.eval, cmpI, IE.eval, IE.reval, IE.aeval, hk, hb, hf, sel2, and_true]
    refine fun _ => stepG_cut0 ⟨rfl, k, x, y, rfl, hp.1, hp.2.1 |> fun h => ⟨h, hp.2.2.1⟩, ⟨hp.2.2.2.1, hp.2.2.2.2⟩, 0, ?_, ?_, ?_, ?_, .inl rfl⟩
    all_goals simp [upd, lk_cons, lk_nil, IE.eval, IE.reval, hk, hb, sel2, vInt_int, tdN]

theorem lt_of {i n : Nat} (h : i < n) {m : Nat} (hn : n = m) : i < m := hn ▸ h

theorem q_ok {c : Pc} (h : PcOk Try.prog FN c) (h1 : c.id + c.rks.length ≤ 45) (h2 : ∀ i ∈ c.pre, i < 45) : PcOk Try.prog FNq c := by
  have key : ∀ i, i < 45 → FNq i = FN i := by
    intro i hi
    funext l
    unfold FNq
    split
    · omega
    · rfl
  exact h.cong (fun i hi => key _ (by omega)) (fun i hi => key _ (h2 i hi))

theorem awake_spans : saysTrue Try.prog 5000 31 = true := by kernel_rfl

theorem knSpans_ok : ∀ env : Env, env.fn = FNq → KnOk Try.prog env knSpans := fun env h =>
  knOk_cons (knOk_cons (knOk_cons (knOk_cons (knOk_cons (knOk_cons (knOk_cons (knOk_cons (knOk_cons (knOk_cons (knOk_cons knOk_nil
    (Pc.ct_ok h (q_ok hasR_ok (by decide) (by decide)))) (Pc.ct_ok h (q_ok withinR_ok (by decide) (by decide)))) (Pc.ct_ok h (q_ok sameC_ok (by decide) (by decide)))) (Pc.ct_ok h aboveRq_ok)) (Pc.ct_ok h (q_ok kidsR_ok (by decide) (by decide)))) (Pc.ct_ok h (q_ok sizes_ok (by decide) (by decide)))) (Pc.ct_ok h (q_ok may_ok (by decide) (by decide)))) (Pc.ct_ok h (q_ok above_ok (by decide) (by decide)))) (Pc.ct_ok h (q_ok kids_ok (by decide) (by decide)))) (Pc.ct_ok h (q_ok span_ok (by decide) (by decide)))) (ctTrue_ok mix awake_spans)

theorem may_eq {w h k t x y : Int} (ht : sizeC w h k = 0 → t = k) : mayC w h k t x y = hasC w h k x y := by
  by_cases hs : sizeC w h k = 0
  · obtain ⟨h1, h2, h3⟩ := sizeC_zero.1 hs
    rw [ht hs]
    simp only [mayC, hasC, if_pos hs, if_pos h1, if_pos (And.intro h2 h3)]
    by_cases hc : 0 ≤ x ∧ x < hvN k.toNat w ∧ 0 ≤ y ∧ y < hvN k.toNat h
    · rw [if_pos hc, if_pos (by omega)]
    · rw [if_neg hc, if_neg (by omega)]
  · have hs' := hs
    have e : hasC w h k x y = sizeC w h k := by rw [hasC, if_neg hs]
    rw [e]
    unfold sizeC at hs' ⊢
    unfold mayC
    by_cases h1 : szOk w h
    · rw [if_pos h1, if_pos h1]
      rw [if_pos h1] at hs'
      by_cases h2 : 0 ≤ k ∧ k < ((lv 10 w h : Nat) : Int)
      · rw [if_pos h2] at hs'; omega
      · rw [if_neg h2, if_neg h2]
    · rw [if_neg h1, if_neg h1]

theorem may_above {w h k x y : Int} : mayC w h k 0 x y = aboveC w h k x y := by
  by_cases hs : sizeC w h k = 0
  · obtain ⟨h1, h2, h3⟩ := sizeC_zero.1 hs
    have h0 : sizeC w h 0 = 0 := sizeC_zero.2 ⟨h1, by omega, by have := lv_pos 10 w h; omega⟩
    simp only [mayC, aboveC, if_pos hs, if_pos h1, if_pos (And.intro h2 h3), hasC, if_pos h0]
    by_cases hc : 0 ≤ x ∧ x < hvN (0 : Int).toNat w ∧ 0 ≤ y ∧ y < hvN (0 : Int).toNat h
    · rw [if_pos hc, if_pos (by omega)]
    · rw [if_neg hc, if_neg (by omega)]
  · have := may_eq (w := w) (h := h) (k := k) (t := 0) (x := x) (y := y) (fun h => absurd h hs)
    rw [this, hasC, if_neg hs, aboveC, if_neg hs]

theorem div_iff {d p x : Int} (hp : 0 < p) : d / p = x ↔ x * p ≤ d ∧ d < (x + 1) * p := by
  constructor
  · rintro rfl; exact ⟨Int.ediv_mul_le d (by omega), Int.lt_ediv_add_one_mul_self d hp⟩
  · rintro ⟨h1, h2⟩
    have q1 := (Int.ediv_lt_iff_lt_mul hp).2 h2
    have q2 := (Int.le_ediv_iff_mul_le hp).2 h1
    omega

theorem hvN_ceil {n : Int} (h : 1 ≤ n) : ∀ j : Nat, n ≤ hvN j n * 2 ^ j ∧ (hvN j n - 1) * 2 ^ j < n
  | 0 => by simp [hvN]; omega
  | j + 1 => by
    obtain ⟨h1, h2⟩ := hvN_ceil h j
    have e : hvN (j + 1) n = (hvN j n + 1) / 2 := rfl
    have hp : (0 : Int) < 2 ^ j := Int.pow_pos (by omega)
    have a1 : hvN j n ≤ 2 * hvN (j + 1) n := by rw [e]; omega
    have a2 : 2 * (hvN (j + 1) n - 1) ≤ hvN j n - 1 := by rw [e]; omega
    have b1 := Int.mul_le_mul_of_nonneg_right a1 (Int.le_of_lt hp)
    have b2 := Int.mul_le_mul_of_nonneg_right a2 (Int.le_of_lt hp)
    have c1 : ∀ z : Int, z * 2 ^ (j + 1) = 2 * z * 2 ^ j := fun z => by rw [Int.pow_succ, Int.mul_comm ((2 : Int) ^ j) 2, ← Int.mul_assoc, Int.mul_comm z 2]
    rw [c1, c1]
    omega

/-- one side of a span -/
theorem span_side {n x d : Int} {j : Nat} (h : 1 ≤ n) (h0 : n ≤ 1024) (h1 : 0 ≤ x) (h2 : x < hvN j n) (h3 : 0 ≤ d) (h4 : d < n) :
    (0 ≤ x * 2 ^ j ∧ x * 2 ^ j < n ∧ 0 ≤ min n ((x + 1) * 2 ^ j) - 1 ∧ min n ((x + 1) * 2 ^ j) - 1 < n ∧ x * 2 ^ j ≤ min n ((x + 1) * 2 ^ j) - 1) ∧ ((x * 2 ^ j ≤ d ∧ d ≤ min n ((x + 1) * 2 ^ j) - 1) ↔ d / 2 ^ j = x) := by
  obtain ⟨c1, c2⟩ := hvN_ceil h j
  have hp : (0 : Int) < 2 ^ j := Int.pow_pos (by omega)
  have b0 := Int.mul_le_mul_of_nonneg_right (show x ≤ hvN j n - 1 by omega) (Int.le_of_lt hp)
  have n0 : 0 ≤ x * 2 ^ j := Int.mul_nonneg h1 (by omega)
  have e1 : (x + 1) * 2 ^ j = x * 2 ^ j + 2 ^ j := by rw [Int.add_mul, Int.one_mul]
  rw [div_iff hp]
  omega

end Go.Proofs.Ytagahpfinaaemaa
