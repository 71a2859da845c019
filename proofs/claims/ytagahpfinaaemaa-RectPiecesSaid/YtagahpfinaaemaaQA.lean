/- The pieces of a rectangle, as numbers. -/
import Derived.Test.YtagahpfinaaemaaRA

namespace Go.Sym
open Go

/-- A CONTRACT SPEAKS OF ITS OWN FUNCTIONS ALONE. -/
theorem PcOk.cong {P : Program} {FN FN' : Nat → List (List Int) → List Int} {c : Pc} (h : PcOk P FN c) (he : ∀ i, i < c.rks.length → FN' (c.id + i) = FN (c.id + i)) (hp : ∀ i ∈ c.pre, FN' i = FN i) : PcOk P FN' c := by
  have hpre : ∀ ls l, (∀ i ∈ l, FN' i = FN i) → PreOk FN' ls l → PreOk FN ls l := by
    intro ls l
    induction l with
    | nil => intro _ _; trivial
    | cons i r ih =>
      intro hq hx
      exact ⟨by rw [← hq i (List.mem_cons_self ..)]; exact hx.1, ih (fun j hj => hq j (List.mem_cons_of_mem _ hj)) hx.2⟩
  have hres : ∀ ls w w' (rks : List ResK) id vs, (∀ i, i < rks.length → FN' (id + i) = FN (id + i)) → ResL FN ls w w' id rks vs → ResL FN' ls w w' id rks vs := by
    intro ls w w' rks
    induction rks with
    | nil => intro id vs _ hx; exact hx
    | cons r rs ih =>
      intro id vs hq hx
      have h0 := hq 0 (by simp)
      rw [Nat.add_zero] at h0
      have hs : ∀ i, i < rs.length → FN' (id + 1 + i) = FN (id + 1 + i) := fun i hi => by
        have := hq (i + 1) (by simp; omega)
        rwa [show id + 1 + i = id + (i + 1) by omega]
      cases r with
      | sl e ks =>
        obtain ⟨v, vs', q1, q2, q3⟩ := hx
        exact ⟨v, vs', q1, by rw [h0]; exact q2, ih _ _ hs q3⟩
      | int k =>
        obtain ⟨v, vs', q1, q2, q3⟩ := hx
        exact ⟨v, vs', q1, by rw [h0]; exact q2, ih _ _ hs q3⟩
      | bool =>
        obtain ⟨v, vs', q1, q2, q3⟩ := hx
        exact ⟨v, vs', q1, by rw [h0]; exact q2, ih _ _ hs q3⟩
      | str =>
        obtain ⟨v, vs', q1, q2, q3⟩ := hx
        exact ⟨v, vs', q1, by rw [h0]; exact q2, ih _ _ hs q3⟩
      | agg ks =>
        obtain ⟨v, vs', q1, q2, q3⟩ := hx
        exact ⟨v, vs', q1, by rw [h0]; exact q2, ih _ _ hs q3⟩
  intro w vs ls ha hr hq
  refine Calls.mono (h w vs ls ha hr (hpre ls _ hp hq)) ?_
  rintro e w' ⟨h1, v, vs', h2, h3, h4⟩
  exact ⟨h1, v, vs', h2, h3, hres _ _ _ _ _ _ he h4⟩

end Go.Sym

namespace Go.Proofs.Ytagahpfinaaemaa

open Go Go.Sym

set_option linter.unusedVariables false

def areaI (x0 y0 x1 y1 : Int) : Int := if rightP x0 y0 x1 y1 then (x1 + 1 - x0) * (y1 + 1 - y0) else 0

def tileL (x0 y0 x1 y1 X Y : Int) : List Int := if meetsP x0 y0 x1 y1 (16 * X) (16 * Y) (16 * X + 15) (16 * Y + 15) then meetL x0 y0 x1 y1 (16 * X) (16 * Y) (16 * X + 15) (16 * Y + 15) else []

def rowT (x0 y0 x1 y1 Y : Int) : Nat → List Int
  | 0 => []
  | n + 1 => rowT x0 y0 x1 y1 Y n ++ tileL x0 y0 x1 y1 n Y

def allT (x0 y0 x1 y1 : Int) : Nat → List Int
  | 0 => []
  | n + 1 => allT x0 y0 x1 y1 n ++ rowT x0 y0 x1 y1 n 64

theorem tile_no {x0 y0 x1 y1 X Y : Int} (h : ¬ meetsP x0 y0 x1 y1 (16 * X) (16 * Y) (16 * X + 15) (16 * Y + 15)) : tileL x0 y0 x1 y1 X Y = [] := by
  rw [tileL, if_neg h]

theorem tile_is {x0 y0 x1 y1 x y X Y : Int} (hr : rightP x0 y0 x1 y1) (h1 : x = max x0 (16 * X)) (h2 : x ≤ x1) (h3 : x ≤ 16 * X + 15) (h4 : y = max y0 (16 * Y)) (h5 : y ≤ y1) (h6 : y ≤ 16 * Y + 15) (h7 : 0 ≤ X) (h8 : 0 ≤ Y) (h9 : X < 64) (h10 : Y < 64) :
    tileL x0 y0 x1 y1 X Y = [x, y, min x1 (16 * X + 15), min y1 (16 * Y + 15)] := by
  unfold rightP at hr
  have hm : meetsP x0 y0 x1 y1 (16 * X) (16 * Y) (16 * X + 15) (16 * Y + 15) := by unfold meetsP rightP; omega
  rw [tileL, if_pos hm, meetL, if_pos hm, h1, h4]

theorem rowT_lo {x0 y0 x1 y1 Y : Int} : ∀ n : Nat, 16 * (n : Int) ≤ x0 → rowT x0 y0 x1 y1 Y n = []
  | 0, _ => rfl
  | n + 1, h => by
    rw [rowT, rowT_lo n (by omega), tile_no (by unfold meetsP rightP; omega)]; rfl
theorem rowT_hi {x0 y0 x1 y1 Y : Int} {n : Nat} (h : x1 < 16 * (n : Int)) : ∀ k : Nat, rowT x0 y0 x1 y1 Y (n + k) = rowT x0 y0 x1 y1 Y n
  | 0 => rfl
  | k + 1 => by
    rw [← Nat.add_assoc, rowT, rowT_hi h k, tile_no (by unfold meetsP rightP; omega), List.append_nil]
theorem rowT_out {x0 y0 x1 y1 Y : Int} (h : 16 * Y + 15 < y0 ∨ y1 < 16 * Y) : ∀ n : Nat, rowT x0 y0 x1 y1 Y n = []
  | 0 => rfl
  | n + 1 => by rw [rowT, rowT_out h n, tile_no (by unfold meetsP rightP; omega)]; rfl
theorem allT_lo {x0 y0 x1 y1 : Int} : ∀ n : Nat, 16 * (n : Int) ≤ y0 → allT x0 y0 x1 y1 n = []
  | 0, _ => rfl
  | n + 1, h => by rw [allT, allT_lo n (by omega), rowT_out (by omega)]; rfl
theorem allT_hi {x0 y0 x1 y1 : Int} {n : Nat} (h : y1 < 16 * (n : Int)) : ∀ k : Nat, allT x0 y0 x1 y1 (n + k) = allT x0 y0 x1 y1 n
  | 0 => rfl
  | k + 1 => by rw [← Nat.add_assoc, allT, allT_hi h k, rowT_out (by omega), List.append_nil]
theorem rowT_no {x0 y0 x1 y1 Y : Int} (h : ¬ rightP x0 y0 x1 y1) : ∀ n : Nat, rowT x0 y0 x1 y1 Y n = []
  | 0 => rfl
  | n + 1 => by rw [rowT, rowT_no h n, tile_no (fun hm => h hm.1)]; rfl
theorem allT_no {x0 y0 x1 y1 : Int} (h : ¬ rightP x0 y0 x1 y1) : ∀ n : Nat, allT x0 y0 x1 y1 n = []
  | 0 => rfl
  | n + 1 => by rw [allT, allT_no h n, rowT_no h]; rfl

theorem meetL_len (a0 b0 a1 b1 c0 d0 c1 d1 : Int) : (meetL a0 b0 a1 b1 c0 d0 c1 d1).length = 4 := by unfold meetL; split <;> rfl
theorem tile_len (x0 y0 x1 y1 X Y : Int) : (tileL x0 y0 x1 y1 X Y).length = 0 ∨ (tileL x0 y0 x1 y1 X Y).length = 4 := by
  unfold tileL; split
  · exact .inr (meetL_len ..)
  · exact .inl rfl
theorem rowT_len (x0 y0 x1 y1 Y : Int) : ∀ n : Nat, (rowT x0 y0 x1 y1 Y n).length ≤ 4 * n ∧ (rowT x0 y0 x1 y1 Y n).length % 4 = 0
  | 0 => ⟨Nat.le_refl _, rfl⟩
  | n + 1 => by
    have h1 := rowT_len x0 y0 x1 y1 Y n
    have h2 := tile_len x0 y0 x1 y1 n Y
    rw [rowT, List.length_append]; omega
theorem allT_len (x0 y0 x1 y1 : Int) : ∀ n : Nat, (allT x0 y0 x1 y1 n).length ≤ 256 * n ∧ (allT x0 y0 x1 y1 n).length % 4 = 0
  | 0 => ⟨Nat.le_refl _, rfl⟩
  | n + 1 => by
    have h1 := allT_len x0 y0 x1 y1 n
    have h2 := rowT_len x0 y0 x1 y1 n 64
    rw [allT, List.length_append]; omega

/-! sums over all pieces -/

def sumA : List Int → Int
  | a :: b :: c :: d :: l => areaI a b c d + sumA l
  | _ => 0
def cntH (x y : Int) : List Int → Int
  | a :: b :: c :: d :: l => (if hasP a b c d x y then 1 else 0) + cntH x y l
  | _ => 0
def allOne : List Int → Prop
  | a :: b :: c :: d :: l => (rightP a b c d ∧ a / 16 = c / 16 ∧ b / 16 = d / 16) ∧ allOne l
  | _ => True

theorem chunk {l : List Int} (h : l.length % 4 = 0) (h2 : l ≠ []) : ∃ a b c d r, l = a :: b :: c :: d :: r ∧ r.length % 4 = 0 := by
  match l, h, h2 with
  | a :: b :: c :: d :: r, h, _ => exact ⟨a, b, c, d, r, rfl, by simp at h; omega⟩

theorem sumA_app : ∀ (n : Nat) (l m : List Int), l.length = 4 * n → sumA (l ++ m) = sumA l + sumA m ∧ (∀ x y, cntH x y (l ++ m) = cntH x y l + cntH x y m) ∧ (allOne l → allOne m → allOne (l ++ m))
  | 0, l, m, h => by
    have : l = [] := List.eq_nil_of_length_eq_zero (by omega)
    subst this
    refine ⟨by simp [sumA], fun x y => by simp [cntH], fun _ h => h⟩
  | n + 1, l, m, h => by
    obtain ⟨a, b, c, d, r, rfl, _⟩ := chunk (l := l) (by omega) (by rintro rfl; simp at h)
    obtain ⟨h1, h2, h3⟩ := sumA_app n r m (by simp at h; omega)
    refine ⟨?_, fun x y => ?_, fun q1 q2 => ⟨q1.1, h3 q1.2 q2⟩⟩
    · simp only [List.cons_append, sumA, h1]; omega
    · simp only [List.cons_append, cntH, h2]; omega

theorem sumA_app' {l m : List Int} (h : l.length % 4 = 0) : sumA (l ++ m) = sumA l + sumA m := (sumA_app (l.length / 4) l m (by omega)).1
theorem cntH_app' {l m : List Int} (h : l.length % 4 = 0) (x y : Int) : cntH x y (l ++ m) = cntH x y l + cntH x y m := (sumA_app (l.length / 4) l m (by omega)).2.1 x y
theorem allOne_app' {l m : List Int} (h : l.length % 4 = 0) : allOne l → allOne m → allOne (l ++ m) := (sumA_app (l.length / 4) l m (by omega)).2.2

/-- how much of what is below e lies from a to b -/
def wid (a b e : Int) : Int := max 0 (min b (e - 1) + 1 - a)

theorem tile_vals {x0 y0 x1 y1 X Y : Int} (hr : rightP x0 y0 x1 y1) (h7 : 0 ≤ X) (h8 : 0 ≤ Y) (h9 : X < 64) (h10 : Y < 64) :
    sumA (tileL x0 y0 x1 y1 X Y) = (wid x0 x1 (16 * X + 16) - wid x0 x1 (16 * X)) * (wid y0 y1 (16 * Y + 16) - wid y0 y1 (16 * Y)) ∧ allOne (tileL x0 y0 x1 y1 X Y) ∧
    ∀ x y, cntH x y (tileL x0 y0 x1 y1 X Y) = if hasP x0 y0 x1 y1 x y ∧ x / 16 = X ∧ y / 16 = Y then 1 else 0 := by
  have hr' := hr
  unfold rightP at hr'
  by_cases hm : meetsP x0 y0 x1 y1 (16 * X) (16 * Y) (16 * X + 15) (16 * Y + 15)
  · have hm' := hm
    unfold meetsP rightP at hm'
    have e := tile_is (x := max x0 (16 * X)) (y := max y0 (16 * Y)) hr rfl (by omega) (by omega) rfl (by omega) (by omega) h7 h8 h9 h10
    rw [e]
    refine ⟨?_, ⟨⟨by unfold rightP; omega, by omega, by omega⟩, trivial⟩, fun x y => ?_⟩
    · simp only [sumA, Int.add_zero, areaI]
      rw [if_pos (by unfold rightP; omega)]
      congr 1 <;> (unfold wid; omega)
    · simp only [cntH, Int.add_zero]
      have : hasP (max x0 (16 * X)) (max y0 (16 * Y)) (min x1 (16 * X + 15)) (min y1 (16 * Y + 15)) x y ↔ (hasP x0 y0 x1 y1 x y ∧ x / 16 = X ∧ y / 16 = Y) := by
        unfold hasP rightP; omega
      simp only [this]
  · rw [tile_no hm]
    refine ⟨?_, trivial, fun x y => ?_⟩
    · have : wid x0 x1 (16 * X + 16) - wid x0 x1 (16 * X) = 0 ∨ wid y0 y1 (16 * Y + 16) - wid y0 y1 (16 * Y) = 0 := by
        unfold meetsP rightP at hm; unfold wid; omega
      rcases this with h | h <;> rw [h] <;> simp [sumA]
    · rw [if_neg (by unfold meetsP rightP at hm; unfold hasP rightP; omega)]; rfl

theorem row_vals {x0 y0 x1 y1 Y : Int} (hr : rightP x0 y0 x1 y1) (h8 : 0 ≤ Y) (h10 : Y < 64) : ∀ n : Nat, n ≤ 64 →
    sumA (rowT x0 y0 x1 y1 Y n) = wid x0 x1 (16 * n) * (wid y0 y1 (16 * Y + 16) - wid y0 y1 (16 * Y)) ∧ allOne (rowT x0 y0 x1 y1 Y n) ∧
    ∀ x y, cntH x y (rowT x0 y0 x1 y1 Y n) = if hasP x0 y0 x1 y1 x y ∧ x < 16 * n ∧ y / 16 = Y then 1 else 0
  | 0, _ => by
    have hr' := hr
    unfold rightP at hr'
    refine ⟨?_, trivial, fun x y => ?_⟩
    · have : wid x0 x1 (16 * ((0 : Nat) : Int)) = 0 := by unfold wid; omega
      rw [this]; simp [rowT, sumA]
    · rw [if_neg (by unfold hasP rightP; omega)]; rfl
  | n + 1, hn => by
    obtain ⟨h1, h2, h3⟩ := row_vals hr h8 h10 n (by omega)
    obtain ⟨t1, t2, t3⟩ := tile_vals (X := n) (Y := Y) hr (by omega) h8 (by omega) h10
    have hl := (rowT_len x0 y0 x1 y1 Y n).2
    refine ⟨?_, allOne_app' hl h2 t2, fun x y => ?_⟩
    · rw [rowT, sumA_app' hl, h1, t1, ← Int.add_mul]
      congr 1
      rw [show (16 * ((n + 1 : Nat) : Int)) = 16 * (n : Int) + 16 by omega]; omega
    · rw [rowT, cntH_app' hl, h3, t3]
      by_cases a1 : hasP x0 y0 x1 y1 x y
      · have a2 : 0 ≤ x := by unfold hasP rightP at a1; omega
        by_cases a3 : y / 16 = Y
        · by_cases a4 : x < 16 * (n : Int)
          · rw [if_pos ⟨a1, a4, a3⟩, if_neg (by omega), if_pos ⟨a1, by omega, a3⟩]; rfl
          · by_cases a5 : x / 16 = n
            · rw [if_neg (by omega), if_pos ⟨a1, a5, a3⟩, if_pos ⟨a1, by omega, a3⟩]; rfl
            · rw [if_neg (by omega), if_neg (by omega), if_neg (by omega)]; rfl
        · rw [if_neg (by omega), if_neg (by omega), if_neg (by omega)]; rfl
      · rw [if_neg (fun h => a1 h.1), if_neg (fun h => a1 h.1), if_neg (fun h => a1 h.1)]; rfl

theorem all_vals {x0 y0 x1 y1 : Int} (hr : rightP x0 y0 x1 y1) : ∀ n : Nat, n ≤ 64 →
    sumA (allT x0 y0 x1 y1 n) = (x1 + 1 - x0) * wid y0 y1 (16 * n) ∧ allOne (allT x0 y0 x1 y1 n) ∧
    ∀ x y, cntH x y (allT x0 y0 x1 y1 n) = if hasP x0 y0 x1 y1 x y ∧ y < 16 * n then 1 else 0
  | 0, _ => by
    have hr' := hr
    unfold rightP at hr'
    refine ⟨?_, trivial, fun x y => ?_⟩
    · have : wid y0 y1 (16 * ((0 : Nat) : Int)) = 0 := by unfold wid; omega
      rw [this]; simp [allT, sumA]
    · rw [if_neg (by unfold hasP rightP; omega)]; rfl
  | n + 1, hn => by
    have hr' := hr
    unfold rightP at hr'
    obtain ⟨h1, h2, h3⟩ := all_vals hr n (by omega)
    obtain ⟨m, hm⟩ : ∃ m : Nat, m = 64 := ⟨_, rfl⟩
    obtain ⟨t1, t2, t3⟩ := row_vals (Y := n) hr (by omega) (by omega) m (by omega)
    rw [show allT x0 y0 x1 y1 (n + 1) = allT x0 y0 x1 y1 n ++ rowT x0 y0 x1 y1 n m by rw [allT, hm]]
    have hl := (allT_len x0 y0 x1 y1 n).2
    refine ⟨?_, allOne_app' hl h2 t2, fun x y => ?_⟩
    · have e : wid x0 x1 (16 * (m : Int)) = x1 + 1 - x0 := by unfold wid; omega
      rw [sumA_app' hl, h1, t1, e, ← Int.mul_add]
      congr 1
      rw [show (16 * ((n + 1 : Nat) : Int)) = 16 * (n : Int) + 16 by omega]; omega
    · rw [cntH_app' hl, h3, t3]
      by_cases a1 : hasP x0 y0 x1 y1 x y
      · have a2 : 0 ≤ y ∧ x < 1024 := by unfold hasP rightP at a1; omega
        by_cases a4 : y < 16 * (n : Int)
        · rw [if_pos ⟨a1, a4⟩, if_neg (by omega), if_pos ⟨a1, by omega⟩]; rfl
        · by_cases a5 : y / 16 = n
          · rw [if_neg (by omega), if_pos ⟨a1, by omega, a5⟩, if_pos ⟨a1, by omega⟩]; rfl
          · rw [if_neg (by omega), if_neg (by omega), if_neg (by omega)]; rfl
      · rw [if_neg (fun h => a1 h.1), if_neg (fun h => a1 h.1), if_neg (fun h => a1 h.1)]; rfl

/-- WHAT ALL PIECES ARE TOGETHER. -/
theorem pieces_vals' (x0 y0 x1 y1 : Int) (m : Nat) (hm : m = 64) : sumA (allT x0 y0 x1 y1 m) = areaI x0 y0 x1 y1 ∧ allOne (allT x0 y0 x1 y1 m) ∧
    ∀ x y, cntH x y (allT x0 y0 x1 y1 m) = if hasP x0 y0 x1 y1 x y then 1 else 0 := by
  by_cases hr : rightP x0 y0 x1 y1
  · have hr' := hr
    unfold rightP at hr'
    obtain ⟨h1, h2, h3⟩ := all_vals hr m (by omega)
    refine ⟨?_, h2, fun x y => ?_⟩
    · rw [h1, areaI, if_pos hr]
      congr 1; unfold wid; omega
    · rw [h3]
      have : (hasP x0 y0 x1 y1 x y ∧ y < 16 * (m : Int)) ↔ hasP x0 y0 x1 y1 x y := by unfold hasP rightP; omega
      simp only [this]
  · rw [allT_no hr]
    refine ⟨by rw [areaI, if_neg hr]; rfl, trivial, fun x y => ?_⟩
    rw [if_neg (fun h => hr h.1)]; rfl

def piecesL (x0 y0 x1 y1 : Int) : List Int := allT x0 y0 x1 y1 64

theorem pieces_vals (x0 y0 x1 y1 : Int) : sumA (piecesL x0 y0 x1 y1) = areaI x0 y0 x1 y1 ∧ allOne (piecesL x0 y0 x1 y1) ∧
    ∀ x y, cntH x y (piecesL x0 y0 x1 y1) = if hasP x0 y0 x1 y1 x y then 1 else 0 := pieces_vals' x0 y0 x1 y1 _ rfl

end Go.Proofs.Ytagahpfinaaemaa
