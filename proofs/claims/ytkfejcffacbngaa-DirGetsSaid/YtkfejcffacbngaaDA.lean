import Derived.Test.YtkfejcffacbngaaProg
import Derived.Test.YtkfejcffacbngaaSyCd

namespace Go.Proofs.Ytkfejcffacbngaa

open Go Go.Sym

set_option linter.unusedVariables false

def szOk (w h : Int) : Prop := 1 ≤ w ∧ w ≤ 1024 ∧ 1 ≤ h ∧ h ≤ 1024

instance (w h : Int) : Decidable (szOk w h) := by unfold szOk; infer_instance

abbrev R4 : List IntKind := [.i64, .i64, .i64, .i64]

abbrev C2 : List IntKind := [.i64, .i64]

def rightP (x0 y0 x1 y1 : Int) : Prop := 0 ≤ x0 ∧ x0 ≤ x1 ∧ x1 < 1024 ∧ 0 ≤ y0 ∧ y0 ≤ y1 ∧ y1 < 1024

instance (x0 y0 x1 y1 : Int) : Decidable (rightP x0 y0 x1 y1) := by unfold rightP; infer_instance

def hasP (x0 y0 x1 y1 x y : Int) : Prop := rightP x0 y0 x1 y1 ∧ x0 ≤ x ∧ x ≤ x1 ∧ y0 ≤ y ∧ y ≤ y1

instance (x0 y0 x1 y1 x y : Int) : Decidable (hasP x0 y0 x1 y1 x y) := by unfold hasP; infer_instance

def meetsP (a0 b0 a1 b1 c0 d0 c1 d1 : Int) : Prop := rightP a0 b0 a1 b1 ∧ rightP c0 d0 c1 d1 ∧ max a0 c0 ≤ min a1 c1 ∧ max b0 d0 ≤ min b1 d1

instance (a0 b0 a1 b1 c0 d0 c1 d1 : Int) : Decidable (meetsP a0 b0 a1 b1 c0 d0 c1 d1) := by unfold meetsP; infer_instance

def meetL (a0 b0 a1 b1 c0 d0 c1 d1 : Int) : List Int := if meetsP a0 b0 a1 b1 c0 d0 c1 d1 then [max a0 c0, max b0 d0, min a1 c1, min b1 d1] else [0, 0, 0, 0]

def withinC (x0 y0 x1 y1 w h : Int) : Int :=
  if 1 ≤ w ∧ w ≤ 1024 ∧ 1 ≤ h ∧ h ≤ 1024 then (if 0 ≤ x0 ∧ x0 < w ∧ 0 ≤ x1 ∧ x1 < w ∧ 0 ≤ y0 ∧ y0 < h ∧ 0 ≤ y1 ∧ y1 < h then (if x1 < x0 ∨ y1 < y0 then 5 else 0) else 4) else 3

theorem mix : Try.prog.follows .mixedOrders = true := by kernel_rfl

def areaI (x0 y0 x1 y1 : Int) : Int := if rightP x0 y0 x1 y1 then (x1 + 1 - x0) * (y1 + 1 - y0) else 0

def tileL (x0 y0 x1 y1 X Y : Int) : List Int := if meetsP x0 y0 x1 y1 (16 * X) (16 * Y) (16 * X + 15) (16 * Y + 15) then meetL x0 y0 x1 y1 (16 * X) (16 * Y) (16 * X + 15) (16 * Y + 15) else []

def rowT (x0 y0 x1 y1 Y : Int) : Nat → List Int
  | 0 => []
  | n + 1 => rowT x0 y0 x1 y1 Y n ++ tileL x0 y0 x1 y1 n Y

def allT (x0 y0 x1 y1 : Int) : Nat → List Int
  | 0 => []
  | n + 1 => allT x0 y0 x1 y1 n ++ rowT x0 y0 x1 y1 n 64

theorem tile_no {x0 y0 x1 y1 X Y : Int} (h : ¬ meetsP x0 y0 x1 y1 (16 * X) (16 * Y) (16 * X + 15) (16 * Y + 15)) : tileL x0 y0 x1 y1 X Y = [] := by
  rw [tileL, if_neg h]

theorem tile_is {x0 y0 x1 y1 x y X Y : Int} (hr : rightP x0 y0 x1 y1) (h1 : x = max x0 (16 * X)) (h2 : x ≤ x1) (h3 : x ≤ 16 * X + 15) (h4 : y = max y0 (16 * Y)) (h5 : y ≤ y1) (h6 : y ≤ 16 * Y + 15) (h7 : 0 ≤ X) (h8 : 0 ≤ Y) (h9 : X < 64) (h10 : Y < 64) :
    tileL x0 y0 x1 y1 X Y = [x, y, min x1 (16 * X + 15), min y1 (16 * Y + 15)] := by
  unfold rightP at hr
  have hm : meetsP x0 y0 x1 y1 (16 * X) (16 * Y) (16 * X + 15) (16 * Y + 15) := by unfold meetsP rightP; omega
  rw [tileL, if_pos hm, meetL, if_pos hm, h1, h4]

theorem rowT_lo {x0 y0 x1 y1 Y : Int} : ∀ n : Nat, 16 * (n : Int) ≤ x0 → rowT x0 y0 x1 y1 Y n = []
  | 0, _ => rfl
  | n + 1, h => by
    rw [rowT, rowT_lo n (by omega), tile_no (by unfold meetsP rightP; omega)]; rfl
theorem rowT_hi {x0 y0 x1 y1 Y : Int} {n : Nat} (h : x1 < 16 * (n : Int)) : ∀ k : Nat, rowT x0 y0 x1 y1 Y (n + k) = rowT x0 y0 x1 y1 Y n
  | 0 => rfl
  | k + 1 => by
    rw [← Nat.add_assoc, rowT, rowT_hi h k, tile_no (by unfold meetsP rightP; omega), List.append_nil]
theorem rowT_out {x0 y0 x1 y1 Y : Int} (h : 16 * Y + 15 < y0 ∨ y1 < 16 * Y) : ∀ n : Nat, rowT x0 y0 x1 y1 Y n = []
  | 0 => rfl
  | n + 1 => by rw [rowT, rowT_out h n, tile_no (by unfold meetsP rightP; omega)]; rfl
theorem allT_lo {x0 y0 x1 y1 : Int} : ∀ n : Nat, 16 * (n : Int) ≤ y0 → allT x0 y0 x1 y1 n = []
  | 0, _ => rfl
  | n + 1, h => by rw [allT, allT_lo n (by omega), rowT_out (by omega)]; rfl
theorem allT_hi {x0 y0 x1 y1 : Int} {n : Nat} (h : y1 < 16 * (n : Int)) : ∀ k : Nat, allT x0 y0 x1 y1 (n + k) = allT x0 y0 x1 y1 n
  | 0 => rfl
  | k + 1 => by rw [← Nat.add_assoc, allT, allT_hi h k, rowT_out (by omega), List.append_nil]
theorem rowT_no {x0 y0 x1 y1 Y : Int} (h : ¬ rightP x0 y0 x1 y1) : ∀ n : Nat, rowT x0 y0 x1 y1 Y n = []
  | 0 => rfl
  | n + 1 => by rw [rowT, rowT_no h n, tile_no (fun hm => h hm.1)]; rfl
theorem allT_no {x0 y0 x1 y1 : Int} (h : ¬ rightP x0 y0 x1 y1) : ∀ n : Nat, allT x0 y0 x1 y1 n = []
  | 0 => rfl
  | n + 1 => by rw [allT, allT_no h n, rowT_no h]; rfl

theorem meetL_len (a0 b0 a1 b1 c0 d0 c1 d1 : Int) : (meetL a0 b0 a1 b1 c0 d0 c1 d1).length = 4 := by unfold meetL; split <;> rfl
theorem tile_len (x0 y0 x1 y1 X Y : Int) : (tileL x0 y0 x1 y1 X Y).length = 0 ∨ (tileL x0 y0 x1 y1 X Y).length = 4 := by
  unfold tileL; split
  · exact .inr (meetL_len ..)
  · exact .inl rfl
theorem rowT_len (x0 y0 x1 y1 Y : Int) : ∀ n : Nat, (rowT x0 y0 x1 y1 Y n).length ≤ 4 * n ∧ (rowT x0 y0 x1 y1 Y n).length % 4 = 0
  | 0 => ⟨Nat.le_refl _, rfl⟩
  | n + 1 => by
    have h1 := rowT_len x0 y0 x1 y1 Y n
    have h2 := tile_len x0 y0 x1 y1 n Y
    rw [rowT, List.length_append]; omega
theorem allT_len (x0 y0 x1 y1 : Int) : ∀ n : Nat, (allT x0 y0 x1 y1 n).length ≤ 256 * n ∧ (allT x0 y0 x1 y1 n).length % 4 = 0
  | 0 => ⟨Nat.le_refl _, rfl⟩
  | n + 1 => by
    have h1 := allT_len x0 y0 x1 y1 n
    have h2 := rowT_len x0 y0 x1 y1 n 64
    rw [allT, List.length_append]; omega

/-! sums over all pieces -/

def sumA : List Int → Int
  | a :: b :: c :: d :: l => areaI a b c d + sumA l
  | _ => 0
def cntH (x y : Int) : List Int → Int
  | a :: b :: c :: d :: l => (if hasP a b c d x y then 1 else 0) + cntH x y l
  | _ => 0
def allOne : List Int → Prop
  | a :: b :: c :: d :: l => (rightP a b c d ∧ a / 16 = c / 16 ∧ b / 16 = d / 16) ∧ allOne l
  | _ => True

theorem chunk {l : List Int} (h : l.length % 4 = 0) (h2 : l ≠ []) : ∃ a b c d r, l = a :: b :: c :: d :: r ∧ r.length % 4 = 0 := by
  match l, h, h2 with
  | a :: b :: c :: d :: r, h, _ => exact ⟨a, b, c, d, r, rfl, by simp at h; omega⟩

theorem sumA_app : ∀ (n : Nat) (l m : List Int), l.length = 4 * n → sumA (l ++ m) = sumA l + sumA m ∧ (∀ x y, cntH x y (l ++ m) = cntH x y l + cntH x y m) ∧ (allOne l → allOne m → allOne (l ++ m))
  | 0, l, m, h => by
    have : l = [] := List.eq_nil_of_length_eq_zero (by omega)
    subst this
    refine ⟨by simp [sumA], fun x y => by simp [cntH], fun _ h => h⟩
  | n + 1, l, m, h => by
    obtain ⟨a, b, c, d, r, rfl, _⟩ := chunk (l := l) (by omega) (by rintro rfl; simp at h)
    obtain ⟨h1, h2, h3⟩ := sumA_app n r m (by simp at h; omega)
    refine ⟨?_, fun x y => ?_, fun q1 q2 => ⟨q1.1, h3 q1.2 q2⟩⟩
    · simp only [List.cons_append, sumA, h1]; omega
    · simp only [List.cons_append, cntH, h2]; omega

theorem sumA_app' {l m : List Int} (h : l.length % 4 = 0) : sumA (l ++ m) = sumA l + sumA m := (sumA_app (l.length / 4) l m (by omega)).1
theorem cntH_app' {l m : List Int} (h : l.length % 4 = 0) (x y : Int) : cntH x y (l ++ m) = cntH x y l + cntH x y m := (sumA_app (l.length / 4) l m (by omega)).2.1 x y
theorem allOne_app' {l m : List Int} (h : l.length % 4 = 0) : allOne l → allOne m → allOne (l ++ m) := (sumA_app (l.length / 4) l m (by omega)).2.2

/-- how much of what is below e lies from a to b -/
def wid (a b e : Int) : Int := max 0 (min b (e - 1) + 1 - a)

theorem tile_vals {x0 y0 x1 y1 X Y : Int} (hr : rightP x0 y0 x1 y1) (h7 : 0 ≤ X) (h8 : 0 ≤ Y) (h9 : X < 64) (h10 : Y < 64) :
    sumA (tileL x0 y0 x1 y1 X Y) = (wid x0 x1 (16 * X + 16) - wid x0 x1 (16 * X)) * (wid y0 y1 (16 * Y + 16) - wid y0 y1 (16 * Y)) ∧ allOne (tileL x0 y0 x1 y1 X Y) ∧
    ∀ x y, cntH x y (tileL x0 y0 x1 y1 X Y) = if hasP x0 y0 x1 y1 x y ∧ x / 16 = X ∧ y / 16 = Y then 1 else 0 := by
  have hr' := hr
  unfold rightP at hr'
  by_cases hm : meetsP x0 y0 x1 y1 (16 * X) (16 * Y) (16 * X + 15) (16 * Y + 15)
  · have hm' := hm
    unfold meetsP rightP at hm'
    have e := tile_is (x := max x0 (16 * X)) (y := max y0 (16 * Y)) hr rfl (by omega) (by omega) rfl (by omega) (by omega) h7 h8 h9 h10
    rw [e]
    refine ⟨?_, ⟨⟨by unfold rightP; omega, by omega, by omega⟩, trivial⟩, fun x y => ?_⟩
    · simp only [sumA, Int.add_zero, areaI]
      rw [if_pos (by unfold rightP; omega)]
      congr 1 <;> (unfold wid; omega)
    · simp only [cntH, Int.add_zero]
      have : hasP (max x0 (16 * X)) (max y0 (16 * Y)) (min x1 (16 * X + 15)) (min y1 (16 * Y + 15)) x y ↔ (hasP x0 y0 x1 y1 x y ∧ x / 16 = X ∧ y / 16 = Y) := by
        unfold hasP rightP; omega
      simp only [this]
  · rw [tile_no hm]
    refine ⟨?_, trivial, fun x y => ?_⟩
    · have : wid x0 x1 (16 * X + 16) - wid x0 x1 (16 * X) = 0 ∨ wid y0 y1 (16 * Y + 16) - wid y0 y1 (16 * Y) = 0 := by
        unfold meetsP rightP at hm; unfold wid; omega
      rcases this with h | h <;> rw [h] <;> simp [sumA]
    · rw [if_neg (by unfold meetsP rightP at hm; unfold hasP rightP; omega)]; rfl

theorem row_vals {x0 y0 x1 y1 Y : Int} (hr : rightP x0 y0 x1 y1) (h8 : 0 ≤ Y) (h10 : Y < 64) : ∀ n : Nat, n ≤ 64 →
    sumA (rowT x0 y0 x1 y1 Y n) = wid x0 x1 (16 * n) * (wid y0 y1 (16 * Y + 16) - wid y0 y1 (16 * Y)) ∧ allOne (rowT x0 y0 x1 y1 Y n) ∧
    ∀ x y, cntH x y (rowT x0 y0 x1 y1 Y n) = if hasP x0 y0 x1 y1 x y ∧ x < 16 * n ∧ y / 16 = Y then 1 else 0
  | 0, _ => by
    have hr' := hr
    unfold rightP at hr'
    refine ⟨?_, trivial, fun x y => ?_⟩
    · have : wid x0 x1 (16 * ((0 : Nat) : Int)) = 0 := by unfold wid; omega
      rw [this]; simp [rowT, sumA]
    · rw [if_neg (by unfold hasP rightP; omega)]; rfl
  | n + 1, hn => by
    obtain ⟨h1, h2, h3⟩ := row_vals hr h8 h10 n (by omega)
    obtain ⟨t1, t2, t3⟩ := tile_vals (X := n) (Y := Y) hr (by omega) h8 (by omega) h10
    have hl := (rowT_len x0 y0 x1 y1 Y n).2
    refine ⟨?_, allOne_app' hl h2 t2, fun x y => ?_⟩
    · rw [rowT, sumA_app' hl, h1, t1, ← Int.add_mul]
      congr 1
      rw [show (16 * ((n + 1 : Nat) : Int)) = 16 * (n : Int) + 16 by omega]; omega
    · rw [rowT, cntH_app' hl, h3, t3]
      by_cases a1 : hasP x0 y0 x1 y1 x y
      · have a2 : 0 ≤ x := by unfold hasP rightP at a1; omega
        by_cases a3 : y / 16 = Y
        · by_cases a4 : x < 16 * (n : Int)
          · rw [if_pos ⟨a1, a4, a3⟩, if_neg (by omega), if_pos ⟨a1, by omega, a3⟩]; rfl
          · by_cases a5 : x / 16 = n
            · rw [if_neg (by omega), if_pos ⟨a1, a5, a3⟩, if_pos ⟨a1, by omega, a3⟩]; rfl
            · rw [if_neg (by omega), if_neg (by omega), if_neg (by omega)]; rfl
        · rw [if_neg (by omega), if_neg (by omega), if_neg (by omega)]; rfl
      · rw [if_neg (fun h => a1 h.1), if_neg (fun h => a1 h.1), if_neg (fun h => a1 h.1)]; rfl

theorem all_vals {x0 y0 x1 y1 : Int} (hr : rightP x0 y0 x1 y1) : ∀ n : Nat, n ≤ 64 →
    sumA (allT x0 y0 x1 y1 n) = (x1 + 1 - x0) * wid y0 y1 (16 * n) ∧ allOne (allT x0 y0 x1 y1 n) ∧
    ∀ x y, cntH x y (allT x0 y0 x1 y1 n) = if hasP x0 y0 x1 y1 x y ∧ y < 16 * n then 1 else 0
  | 0, _ => by
    have hr' := hr
    unfold rightP at hr'
    refine ⟨?_, trivial, fun x y => ?_⟩
    · have : wid y0 y1 (16 * ((0 : Nat) : Int)) = 0 := by unfold wid; omega
      rw [this]; simp [allT, sumA]
    · rw [if_neg (by unfold hasP rightP; omega)]; rfl
  | n + 1, hn => by
    have hr' := hr
    unfold rightP at hr'
    obtain ⟨h1, h2, h3⟩ := all_vals hr n (by omega)
    obtain ⟨m, hm⟩ : ∃ m : Nat, m = 64 := ⟨_, rfl⟩
    obtain ⟨t1, t2, t3⟩ := row_vals (Y := n) hr (by omega) (by omega) m (by omega)
    rw [show allT x0 y0 x1 y1 (n + 1) = allT x0 y0 x1 y1 n ++ rowT x0 y0 x1 y1 n m by rw [allT, hm]]
    have hl := (allT_len x0 y0 x1 y1 n).2
    refine ⟨?_, allOne_app' hl h2 t2, fun x y => ?_⟩
    · have e : wid x0 x1 (16 * (m : Int)) = x1 + 1 - x0 := by unfold wid; omega
      rw [sumA_app' hl, h1, t1, e, ← Int.mul_add]
      congr 1
      rw [show (16 * ((n + 1 : Nat) : Int)) = 16 * (n : Int) + 16 by omega]; omega
    · rw [cntH_app' hl, h3, t3]
      by_cases a1 : hasP x0 y0 x1 y1 x y
      · have a2 : 0 ≤ y ∧ x < 1024 := by unfold hasP rightP at a1; omega
        by_cases a4 : y < 16 * (n : Int)
        · rw [if_pos ⟨a1, a4⟩, if_neg (by omega), if_pos ⟨a1, by omega⟩]; rfl
        · by_cases a5 : y / 16 = n
          · rw [if_neg (by omega), if_pos ⟨a1, by omega, a5⟩, if_pos ⟨a1, by omega⟩]; rfl
          · rw [if_neg (by omega), if_neg (by omega), if_neg (by omega)]; rfl
      · rw [if_neg (fun h => a1 h.1), if_neg (fun h => a1 h.1), if_neg (fun h => a1 h.1)]; rfl

/-- WHAT ALL PIECES ARE TOGETHER. -/
theorem pieces_vals' (x0 y0 x1 y1 : Int) (m : Nat) (hm : m = 64) : sumA (allT x0 y0 x1 y1 m) = areaI x0 y0 x1 y1 ∧ allOne (allT x0 y0 x1 y1 m) ∧
    ∀ x y, cntH x y (allT x0 y0 x1 y1 m) = if hasP x0 y0 x1 y1 x y then 1 else 0 := by
  by_cases hr : rightP x0 y0 x1 y1
  · have hr' := hr
    unfold rightP at hr'
    obtain ⟨h1, h2, h3⟩ := all_vals hr m (by omega)
    refine ⟨?_, h2, fun x y => ?_⟩
    · rw [h1, areaI, if_pos hr]
      congr 1; unfold wid; omega
    · rw [h3]
      have : (hasP x0 y0 x1 y1 x y ∧ y < 16 * (m : Int)) ↔ hasP x0 y0 x1 y1 x y := by unfold hasP rightP; omega
      simp only [this]
  · rw [allT_no hr]
    refine ⟨by rw [areaI, if_neg hr]; rfl, trivial, fun x y => ?_⟩
    rw [if_neg (fun h => hr h.1)]; rfl

def piecesL (x0 y0 x1 y1 : Int) : List Int := allT x0 y0 x1 y1 64

theorem pieces_vals (x0 y0 x1 y1 : Int) : sumA (piecesL x0 y0 x1 y1) = areaI x0 y0 x1 y1 ∧ allOne (piecesL x0 y0 x1 y1) ∧
    ∀ x y, cntH x y (piecesL x0 y0 x1 y1) = if hasP x0 y0 x1 y1 x y then 1 else 0 := pieces_vals' x0 y0 x1 y1 _ rfl

def tilesI (w h : Int) : Int := if szOk w h then ((w + 15) / 16) * ((h + 15) / 16) else 0

def szC (w h : Int) : Int := if szOk w h then 0 else 3

def g20 : List (List Int) → List Int
  | [[x0, y0, x1, y1]] => encB (decide (rightP x0 y0 x1 y1))
  | _ => []

def g22 : List (List Int) → List Int
  | [[a0, b0, a1, b1], [c0, d0, c1, d1]] => meetL a0 b0 a1 b1 c0 d0 c1 d1
  | _ => []

def g23 : List (List Int) → List Int
  | [[a0, b0, a1, b1], [c0, d0, c1, d1]] => encB (decide (meetsP a0 b0 a1 b1 c0 d0 c1 d1))
  | _ => []

def g25 : List (List Int) → List Int
  | [[x0, y0, x1, y1], [w], [h]] => [withinC x0 y0 x1 y1 w h]
  | _ => []

def g31 : List (List Int) → List Int
  | [[x0, y0, x1, y1]] => piecesL x0 y0 x1 y1
  | _ => []

def g50 : List (List Int) → List Int
  | [[w], [h]] => [tilesI w h]
  | _ => []

def g51 : List (List Int) → List Int
  | [[w], [h]] => [szC w h]
  | _ => []

def g52 : List (List Int) → List Int
  | [[w], [h]] => [if szOk w h then 13 + 8 * tilesI w h else 0]
  | _ => []

def g53 : List (List Int) → List Int
  | [[w], [h]] => [szC w h]
  | _ => []

def FN : Nat → List (List Int) → List Int
  | 20, l => g20 l
  | 22, l => g22 l
  | 23, l => g23 l
  | 25, l => g25 l
  | 31, l => g31 l
  | 50, l => g50 l
  | 51, l => g51 l
  | 52, l => g52 l
  | 53, l => g53 l
  | _, _ => []

def pcRightR : Pc := ⟨146, [.agg R4], [.bool], 20, [], []⟩

def pcMeetR : Pc := ⟨129, [.agg R4, .agg R4], [.agg R4, .bool], 22, [], []⟩

def pcWithin : Pc := ⟨92, [.agg R4, .int .i64, .int .i64], [.int .i64], 25, [], []⟩

def pcPiecesR : Pc := ⟨94, [.agg R4], [.sl 116 R4], 31, [], []⟩

abbrev rB : Nat × Blk := (0, ⟨116, 4, [.sint .i64 (.sel (.rvar 0) (.lit 0) 4 0), .sint .i64 (.sel (.rvar 0) (.lit 0) 4 1), .sint .i64 (.sel (.rvar 0) (.lit 0) 4 2), .sint .i64 (.sel (.rvar 0) (.lit 0) 4 3)], .nil, false, none⟩)

abbrev rV : SV := .agg [.sint .i64 (.sel (.rvar 0) (.lit 0) 4 0), .sint .i64 (.sel (.rvar 0) (.lit 0) 4 1), .sint .i64 (.sel (.rvar 0) (.lit 0) 4 2), .sint .i64 (.sel (.rvar 0) (.lit 0) 4 3)]

abbrev rowPB : Nat × Blk := (1, ⟨116, 0, [], .nil, true, some (.rvar 3, .var 4, R4)⟩)

abbrev stP : List (Nat × SV) := [(0, rV), (1, .ptr 0 0), (2, .nilslice), (4, .sint .i64 (.var 1))]

abbrev asP : As := [(nonneg (.var 4), true), (atmB (.var 4) (.lit 5000), true)]

abbrev qPy : List Nat := [0, 1, 0, 1, 1]

abbrev qPx : List Nat := [0, 1, 0, 0, 1, 0, 0, 1, 0, 1, 1]

abbrev e0B : Nat × Blk := (1, ⟨116, 0, [], .nil, false, none⟩)

abbrev cutsQ : Cuts := [(qPy, ⟨39, (3, .slice 1 0 0 0) :: stP, [rB, e0B], 2, []⟩), (qPx, ⟨39, (5, .sint .i64 (.var 2)) :: (3, .slice 1 0 0 0) :: stP, [rB, e0B], 2, []⟩), (qPy, ⟨39, (3, .rsl (.own 1) (.lit 0) (.var 4) 4) :: stP, [rB, rowPB], 2, asP⟩), (qPx, ⟨39, (5, .sint .i64 (.var 2)) :: (3, .rsl (.own 1) (.lit 0) (.var 4) 4) :: stP, [rB, rowPB], 2, asP⟩)]

theorem rightR_entry : entryK Try.prog [] 50 200 pcRightR.f [] 1 (argSVs 0 pcRightR.aks) 30 [] = some [([(.cmp .lss (.sel (.rvar 0) (.lit 0) 4 0) (.lit 0), true)], .ret (.bool false) ⟨0, .nil⟩), ([(.cmp .lss (.sel (.rvar 0) (.lit 0) 4 2) (.sel (.rvar 0) (.lit 0) 4 0), true), (.cmp .lss (.sel (.rvar 0) (.lit 0) 4 0) (.lit 0), false)], .ret (.bool false) ⟨0, .nil⟩), ([(.cmp .lss (.sel (.rvar 0) (.lit 0) 4 1) (.lit 0), true), (.cmp .lss (.sel (.rvar 0) (.lit 0) 4 2) (.lit 1024), true), (.cmp .lss (.sel (.rvar 0) (.lit 0) 4 2) (.sel (.rvar 0) (.lit 0) 4 0), false), (.cmp .lss (.sel (.rvar 0) (.lit 0) 4 0) (.lit 0), false)], .ret (.bool false) ⟨0, .nil⟩), ([(.cmp .lss (.sel (.rvar 0) (.lit 0) 4 3) (.sel (.rvar 0) (.lit 0) 4 1), true), (.cmp .lss (.sel (.rvar 0) (.lit 0) 4 1) (.lit 0), false), (.cmp .lss (.sel (.rvar 0) (.lit 0) 4 2) (.lit 1024), true), (.cmp .lss (.sel (.rvar 0) (.lit 0) 4 2) (.sel (.rvar 0) (.lit 0) 4 0), false), (.cmp .lss (.sel (.rvar 0) (.lit 0) 4 0) (.lit 0), false)], .ret (.bool false) ⟨0, .nil⟩), ([(.cmp .lss (.sel (.rvar 0) (.lit 0) 4 3) (.sel (.rvar 0) (.lit 0) 4 1), false), (.cmp .lss (.sel (.rvar 0) (.lit 0) 4 1) (.lit 0), false), (.cmp .lss (.sel (.rvar 0) (.lit 0) 4 2) (.lit 1024), true), (.cmp .lss (.sel (.rvar 0) (.lit 0) 4 2) (.sel (.rvar 0) (.lit 0) 4 0), false), (.cmp .lss (.sel (.rvar 0) (.lit 0) 4 0) (.lit 0), false)], .ret (.sbool (.cmp .lss (.sel (.rvar 0) (.lit 0) 4 3) (.lit 1024))) ⟨0, .nil⟩), ([(.cmp .lss (.sel (.rvar 0) (.lit 0) 4 2) (.lit 1024), false), (.cmp .lss (.sel (.rvar 0) (.lit 0) 4 2) (.sel (.rvar 0) (.lit 0) 4 0), false), (.cmp .lss (.sel (.rvar 0) (.lit 0) 4 0) (.lit 0), false)], .ret (.bool false) ⟨0, .nil⟩)] := by kernel_rfl

theorem meetR_entry : entryK Try.prog [pcRightR.ct] 50 200 pcMeetR.f [] 2 (argSVs 0 pcMeetR.aks) 30 [] = some [([(.cmp .eql (.app 20 (.acons (.rcons (.sel (.rvar 0) (.lit 0) 4 0) (.rcons (.sel (.rvar 0) (.lit 0) 4 1) (.rcons (.sel (.rvar 0) (.lit 0) 4 2) (.rcons (.sel (.rvar 0) (.lit 0) 4 3) .rnil)))) .anil)) (.lit 0), true)], .ret (.tuple [.agg [.int .i64 0, .int .i64 0, .int .i64 0, .int .i64 0], .bool false]) ⟨0, .nil⟩), ([(.cmp .eql (.app 20 (.acons (.rcons (.sel (.rvar 1) (.lit 0) 4 0) (.rcons (.sel (.rvar 1) (.lit 0) 4 1) (.rcons (.sel (.rvar 1) (.lit 0) 4 2) (.rcons (.sel (.rvar 1) (.lit 0) 4 3) .rnil)))) .anil)) (.lit 0), true), (.cmp .eql (.app 20 (.acons (.rcons (.sel (.rvar 0) (.lit 0) 4 0) (.rcons (.sel (.rvar 0) (.lit 0) 4 1) (.rcons (.sel (.rvar 0) (.lit 0) 4 2) (.rcons (.sel (.rvar 0) (.lit 0) 4 3) .rnil)))) .anil)) (.lit 0), false)], .ret (.tuple [.agg [.int .i64 0, .int .i64 0, .int .i64 0, .int .i64 0], .bool false]) ⟨0, .nil⟩), ([(.cmp .lss (.sel (.rvar 1) (.lit 0) 4 2) (.sel (.rvar 1) (.lit 0) 4 0), true), (.cmp .lss (.sel (.rvar 1) (.lit 0) 4 3) (.sel (.rvar 0) (.lit 0) 4 3), true), (.cmp .lss (.sel (.rvar 1) (.lit 0) 4 2) (.sel (.rvar 0) (.lit 0) 4 2), true), (.cmp .lss (.sel (.rvar 0) (.lit 0) 4 1) (.sel (.rvar 1) (.lit 0) 4 1), true), (.cmp .lss (.sel (.rvar 0) (.lit 0) 4 0) (.sel (.rvar 1) (.lit 0) 4 0), true), (.cmp .eql (.app 20 (.acons (.rcons (.sel (.rvar 1) (.lit 0) 4 0) (.rcons (.sel (.rvar 1) (.lit 0) 4 1) (.rcons (.sel (.rvar 1) (.lit 0) 4 2) (.rcons (.sel (.rvar 1) (.lit 0) 4 3) .rnil)))) .anil)) (.lit 0), false), (.cmp .eql (.app 20 (.acons (.rcons (.sel (.rvar 0) (.lit 0) 4 0) (.rcons (.sel (.rvar 0) (.lit 0) 4 1) (.rcons (.sel (.rvar 0) (.lit 0) 4 2) (.rcons (.sel (.rvar 0) (.lit 0) 4 3) .rnil)))) .anil)) (.lit 0), false)], .ret (.tuple [.agg [.int .i64 0, .int .i64 0, .int .i64 0, .int .i64 0], .bool false]) ⟨0, .nil⟩), ([(.cmp .lss (.sel (.rvar 1) (.lit 0) 4 3) (.sel (.rvar 1) (.lit 0) 4 1), true), (.cmp .lss (.sel (.rvar 1) (.lit 0) 4 2) (.sel (.rvar 1) (.lit 0) 4 0), false), (.cmp .lss (.sel (.rvar 1) (.lit 0) 4 3) (.sel (.rvar 0) (.lit 0) 4 3), true), (.cmp .lss (.sel (.rvar 1) (.lit 0) 4 2) (.sel (.rvar 0) (.lit 0) 4 2), true), (.cmp .lss (.sel (.rvar 0) (.lit 0) 4 1) (.sel (.rvar 1) (.lit 0) 4 1), true), (.cmp .lss (.sel (.rvar 0) (.lit 0) 4 0) (.sel (.rvar 1) (.lit 0) 4 0), true), (.cmp .eql (.app 20 (.acons (.rcons (.sel (.rvar 1) (.lit 0) 4 0) (.rcons (.sel (.rvar 1) (.lit 0) 4 1) (.rcons (.sel (.rvar 1) (.lit 0) 4 2) (.rcons (.sel (.rvar 1) (.lit 0) 4 3) .rnil)))) .anil)) (.lit 0), false), (.cmp .eql (.app 20 (.acons (.rcons (.sel (.rvar 0) (.lit 0) 4 0) (.rcons (.sel (.rvar 0) (.lit 0) 4 1) (.rcons (.sel (.rvar 0) (.lit 0) 4 2) (.rcons (.sel (.rvar 0) (.lit 0) 4 3) .rnil)))) .anil)) (.lit 0), false)], .ret (.tuple [.agg [.int .i64 0, .int .i64 0, .int .i64 0, .int .i64 0], .bool false]) ⟨0, .nil⟩), ([(.cmp .lss (.sel (.rvar 1) (.lit 0) 4 3) (.sel (.rvar 1) (.lit 0) 4 1), false), (.cmp .lss (.sel (.rvar 1) (.lit 0) 4 2) (.sel (.rvar 1) (.lit 0) 4 0), false), (.cmp .lss (.sel (.rvar 1) (.lit 0) 4 3) (.sel (.rvar 0) (.lit 0) 4 3), true), (.cmp .lss (.sel (.rvar 1) (.lit 0) 4 2) (.sel (.rvar 0) (.lit 0) 4 2), true), (.cmp .lss (.sel (.rvar 0) (.lit 0) 4 1) (.sel (.rvar 1) (.lit 0) 4 1), true), (.cmp .lss (.sel (.rvar 0) (.lit 0) 4 0) (.sel (.rvar 1) (.lit 0) 4 0), true), (.cmp .eql (.app 20 (.acons (.rcons (.sel (.rvar 1) (.lit 0) 4 0) (.rcons (.sel (.rvar 1) (.lit 0) 4 1) (.rcons (.sel (.rvar 1) (.lit 0) 4 2) (.rcons (.sel (.rvar 1) (.lit 0) 4 3) .rnil)))) .anil)) (.lit 0), false), (.cmp .eql (.app 20 (.acons (.rcons (.sel (.rvar 0) (.lit 0) 4 0) (.rcons (.sel (.rvar 0) (.lit 0) 4 1) (.rcons (.sel (.rvar 0) (.lit 0) 4 2) (.rcons (.sel (.rvar 0) (.lit 0) 4 3) .rnil)))) .anil)) (.lit 0), false)], .ret (.tuple [.agg [.sint .i64 (.sel (.rvar 1) (.lit 0) 4 0), .sint .i64 (.sel (.rvar 1) (.lit 0) 4 1), .sint .i64 (.sel (.rvar 1) (.lit 0) 4 2), .sint .i64 (.sel (.rvar 1) (.lit 0) 4 3)], .bool true]) ⟨0, .nil⟩), ([(.cmp .lss (.sel (.rvar 1) (.lit 0) 4 2) (.sel (.rvar 1) (.lit 0) 4 0), true), (.cmp .lss (.sel (.rvar 1) (.lit 0) 4 3) (.sel (.rvar 0) (.lit 0) 4 3), false), (.cmp .lss (.sel (.rvar 1) (.lit 0) 4 2) (.sel (.rvar 0) (.lit 0) 4 2), true), (.cmp .lss (.sel (.rvar 0) (.lit 0) 4 1) (.sel (.rvar 1) (.lit 0) 4 1), true), (.cmp .lss (.sel (.rvar 0) (.lit 0) 4 0) (.sel (.rvar 1) (.lit 0) 4 0), true), (.cmp .eql (.app 20 (.acons (.rcons (.sel (.rvar 1) (.lit 0) 4 0) (.rcons (.sel (.rvar 1) (.lit 0) 4 1) (.rcons (.sel (.rvar 1) (.lit 0) 4 2) (.rcons (.sel (.rvar 1) (.lit 0) 4 3) .rnil)))) .anil)) (.lit 0), false), (.cmp .eql (.app 20 (.acons (.rcons (.sel (.rvar 0) (.lit 0) 4 0) (.rcons (.sel (.rvar 0) (.lit 0) 4 1) (.rcons (.sel (.rvar 0) (.lit 0) 4 2) (.rcons (.sel (.rvar 0) (.lit 0) 4 3) .rnil)))) .anil)) (.lit 0), false)], .ret (.tuple [.agg [.int .i64 0, .int .i64 0, .int .i64 0, .int .i64 0], .bool false]) ⟨0, .nil⟩), ([(.cmp .lss (.sel (.rvar 0) (.lit 0) 4 3) (.sel (.rvar 1) (.lit 0) 4 1), true), (.cmp .lss (.sel (.rvar 1) (.lit 0) 4 2) (.sel (.rvar 1) (.lit 0) 4 0), false), (.cmp .lss (.sel (.rvar 1) (.lit 0) 4 3) (.sel (.rvar 0) (.lit 0) 4 3), false), (.cmp .lss (.sel (.rvar 1) (.lit 0) 4 2) (.sel (.rvar 0) (.lit 0) 4 2), true), (.cmp .lss (.sel (.rvar 0) (.lit 0) 4 1) (.sel (.rvar 1) (.lit 0) 4 1), true), (.cmp .lss (.sel (.rvar 0) (.lit 0) 4 0) (.sel (.rvar 1) (.lit 0) 4 0), true), (.cmp .eql (.app 20 (.acons (.rcons (.sel (.rvar 1) (.lit 0) 4 0) (.rcons (.sel (.rvar 1) (.lit 0) 4 1) (.rcons (.sel (.rvar 1) (.lit 0) 4 2) (.rcons (.sel (.rvar 1) (.lit 0) 4 3) .rnil)))) .anil)) (.lit 0), false), (.cmp .eql (.app 20 (.acons (.rcons (.sel (.rvar 0) (.lit 0) 4 0) (.rcons (.sel (.rvar 0) (.lit 0) 4 1) (.rcons (.sel (.rvar 0) (.lit 0) 4 2) (.rcons (.sel (.rvar 0) (.lit 0) 4 3) .rnil)))) .anil)) (.lit 0), false)], .ret (.tuple [.agg [.int .i64 0, .int .i64 0, .int .i64 0, .int .i64 0], .bool false]) ⟨0, .nil⟩), ([(.cmp .lss (.sel (.rvar 0) (.lit 0) 4 3) (.sel (.rvar 1) (.lit 0) 4 1), false), (.cmp .lss (.sel (.rvar 1) (.lit 0) 4 2) (.sel (.rvar 1) (.lit 0) 4 0), false), (.cmp .lss (.sel (.rvar 1) (.lit 0) 4 3) (.sel (.rvar 0) (.lit 0) 4 3), false), (.cmp .lss (.sel (.rvar 1) (.lit 0) 4 2) (.sel (.rvar 0) (.lit 0) 4 2), true), (.cmp .lss (.sel (.rvar 0) (.lit 0) 4 1) (.sel (.rvar 1) (.lit 0) 4 1), true), (.cmp .lss (.sel (.rvar 0) (.lit 0) 4 0) (.sel (.rvar 1) (.lit 0) 4 0), true), (.cmp .eql (.app 20 (.acons (.rcons (.sel (.rvar 1) (.lit 0) 4 0) (.rcons (.sel (.rvar 1) (.lit 0) 4 1) (.rcons (.sel (.rvar 1) (.lit 0) 4 2) (.rcons (.sel (.rvar 1) (.lit 0) 4 3) .rnil)))) .anil)) (.lit 0), false), (.cmp .eql (.app 20 (.acons (.rcons (.sel (.rvar 0) (.lit 0) 4 0) (.rcons (.sel (.rvar 0) (.lit 0) 4 1) (.rcons (.sel (.rvar 0) (.lit 0) 4 2) (.rcons (.sel (.rvar 0) (.lit 0) 4 3) .rnil)))) .anil)) (.lit 0), false)], .ret (.tuple [.agg [.sint .i64 (.sel (.rvar 1) (.lit 0) 4 0), .sint .i64 (.sel (.rvar 1) (.lit 0) 4 1), .sint .i64 (.sel (.rvar 1) (.lit 0) 4 2), .sint .i64 (.sel (.rvar 0) (.lit 0) 4 3)], .bool true]) ⟨0, .nil⟩), ([(.cmp .lss (.sel (.rvar 0) (.lit 0) 4 2) (.sel (.rvar 1) (.lit 0) 4 0), true), (.cmp .lss (.sel (.rvar 1) (.lit 0) 4 3) (.sel (.rvar 0) (.lit 0) 4 3), true), (.cmp .lss (.sel (.rvar 1) (.lit 0) 4 2) (.sel (.rvar 0) (.lit 0) 4 2), false), (.cmp .lss (.sel (.rvar 0) (.lit 0) 4 1) (.sel (.rvar 1) (.lit 0) 4 1), true), (.cmp .lss (.sel (.rvar 0) (.lit 0) 4 0) (.sel (.rvar 1) (.lit 0) 4 0), true), (.cmp .eql (.app 20 (.acons (.rcons (.sel (.rvar 1) (.lit 0) 4 0) (.rcons (.sel (.rvar 1) (.lit 0) 4 1) (.rcons (.sel (.rvar 1) (.lit 0) 4 2) (.rcons (.sel (.rvar 1) (.lit 0) 4 3) .rnil)))) .anil)) (.lit 0), false), (.cmp .eql (.app 20 (.acons (.rcons (.sel (.rvar 0) (.lit 0) 4 0) (.rcons (.sel (.rvar 0) (.lit 0) 4 1) (.rcons (.sel (.rvar 0) (.lit 0) 4 2) (.rcons (.sel (.rvar 0) (.lit 0) 4 3) .rnil)))) .anil)) (.lit 0), false)], .ret (.tuple [.agg [.int .i64 0, .int .i64 0, .int .i64 0, .int .i64 0], .bool false]) ⟨0, .nil⟩), ([(.cmp .lss (.sel (.rvar 1) (.lit 0) 4 3) (.sel (.rvar 1) (.lit 0) 4 1), true), (.cmp .lss (.sel (.rvar 0) (.lit 0) 4 2) (.sel (.rvar 1) (.lit 0) 4 0), false), (.cmp .lss (.sel (.rvar 1) (.lit 0) 4 3) (.sel (.rvar 0) (.lit 0) 4 3), true), (.cmp .lss (.sel (.rvar 1) (.lit 0) 4 2) (.sel (.rvar 0) (.lit 0) 4 2), false), (.cmp .lss (.sel (.rvar 0) (.lit 0) 4 1) (.sel (.rvar 1) (.lit 0) 4 1), true), (.cmp .lss (.sel (.rvar 0) (.lit 0) 4 0) (.sel (.rvar 1) (.lit 0) 4 0), true), (.cmp .eql (.app 20 (.acons (.rcons (.sel (.rvar 1) (.lit 0) 4 0) (.rcons (.sel (.rvar 1) (.lit 0) 4 1) (.rcons (.sel (.rvar 1) (.lit 0) 4 2) (.rcons (.sel (.rvar 1) (.lit 0) 4 3) .rnil)))) .anil)) (.lit 0), false), (.cmp .eql (.app 20 (.acons (.rcons (.sel (.rvar 0) (.lit 0) 4 0) (.rcons (.sel (.rvar 0) (.lit 0) 4 1) (.rcons (.sel (.rvar 0) (.lit 0) 4 2) (.rcons (.sel (.rvar 0) (.lit 0) 4 3) .rnil)))) .anil)) (.lit 0), false)], .ret (.tuple [.agg [.int .i64 0, .int .i64 0, .int .i64 0, .int .i64 0], .bool false]) ⟨0, .nil⟩), ([(.cmp .lss (.sel (.rvar 1) (.lit 0) 4 3) (.sel (.rvar 1) (.lit 0) 4 1), false), (.cmp .lss (.sel (.rvar 0) (.lit 0) 4 2) (.sel (.rvar 1) (.lit 0) 4 0), false), (.cmp .lss (.sel (.rvar 1) (.lit 0) 4 3) (.sel (.rvar 0) (.lit 0) 4 3), true), (.cmp .lss (.sel (.rvar 1) (.lit 0) 4 2) (.sel (.rvar 0) (.lit 0) 4 2), false), (.cmp .lss (.sel (.rvar 0) (.lit 0) 4 1) (.sel (.rvar 1) (.lit 0) 4 1), true), (.cmp .lss (.sel (.rvar 0) (.lit 0) 4 0) (.sel (.rvar 1) (.lit 0) 4 0), true), (.cmp .eql (.app 20 (.acons (.rcons (.sel (.rvar 1) (.lit 0) 4 0) (.rcons (.sel (.rvar 1) (.lit 0) 4 1) (.rcons (.sel (.rvar 1) (.lit 0) 4 2) (.rcons (.sel (.rvar 1) (.lit 0) 4 3) .rnil)))) .anil)) (.lit 0), false), (.cmp .eql (.app 20 (.acons (.rcons (.sel (.rvar 0) (.lit 0) 4 0) (.rcons (.sel (.rvar 0) (.lit 0) 4 1) (.rcons (.sel (.rvar 0) (.lit 0) 4 2) (.rcons (.sel (.rvar 0) (.lit 0) 4 3) .rnil)))) .anil)) (.lit 0), false)], .ret (.tuple [.agg [.sint .i64 (.sel (.rvar 1) (.lit 0) 4 0), .sint .i64 (.sel (.rvar 1) (.lit 0) 4 1), .sint .i64 (.sel (.rvar 0) (.lit 0) 4 2), .sint .i64 (.sel (.rvar 1) (.lit 0) 4 3)], .bool true]) ⟨0, .nil⟩), ([(.cmp .lss (.sel (.rvar 0) (.lit 0) 4 2) (.sel (.rvar 1) (.lit 0) 4 0), true), (.cmp .lss (.sel (.rvar 1) (.lit 0) 4 3) (.sel (.rvar 0) (.lit 0) 4 3), false), (.cmp .lss (.sel (.rvar 1) (.lit 0) 4 2) (.sel (.rvar 0) (.lit 0) 4 2), false), (.cmp .lss (.sel (.rvar 0) (.lit 0) 4 1) (.sel (.rvar 1) (.lit 0) 4 1), true), (.cmp .lss (.sel (.rvar 0) (.lit 0) 4 0) (.sel (.rvar 1) (.lit 0) 4 0), true), (.cmp .eql (.app 20 (.acons (.rcons (.sel (.rvar 1) (.lit 0) 4 0) (.rcons (.sel (.rvar 1) (.lit 0) 4 1) (.rcons (.sel (.rvar 1) (.lit 0) 4 2) (.rcons (.sel (.rvar 1) (.lit 0) 4 3) .rnil)))) .anil)) (.lit 0), false), (.cmp .eql (.app 20 (.acons (.rcons (.sel (.rvar 0) (.lit 0) 4 0) (.rcons (.sel (.rvar 0) (.lit 0) 4 1) (.rcons (.sel (.rvar 0) (.lit 0) 4 2) (.rcons (.sel (.rvar 0) (.lit 0) 4 3) .rnil)))) .anil)) (.lit 0), false)], .ret (.tuple [.agg [.int .i64 0, .int .i64 0, .int .i64 0, .int .i64 0], .bool false]) ⟨0, .nil⟩), ([(.cmp .lss (.sel (.rvar 0) (.lit 0) 4 3) (.sel (.rvar 1) (.lit 0) 4 1), true), (.cmp .lss (.sel (.rvar 0) (.lit 0) 4 2) (.sel (.rvar 1) (.lit 0) 4 0), false), (.cmp .lss (.sel (.rvar 1) (.lit 0) 4 3) (.sel (.rvar 0) (.lit 0) 4 3), false), (.cmp .lss (.sel (.rvar 1) (.lit 0) 4 2) (.sel (.rvar 0) (.lit 0) 4 2), false), (.cmp .lss (.sel (.rvar 0) (.lit 0) 4 1) (.sel (.rvar 1) (.lit 0) 4 1), true), (.cmp .lss (.sel (.rvar 0) (.lit 0) 4 0) (.sel (.rvar 1) (.lit 0) 4 0), true), (.cmp .eql (.app 20 (.acons (.rcons (.sel (.rvar 1) (.lit 0) 4 0) (.rcons (.sel (.rvar 1) (.lit 0) 4 1) (.rcons (.sel (.rvar 1) (.lit 0) 4 2) (.rcons (.sel (.rvar 1) (.lit 0) 4 3) .rnil)))) .anil)) (.lit 0), false), (.cmp .eql (.app 20 (.acons (.rcons (.sel (.rvar 0) (.lit 0) 4 0) (.rcons (.sel (.rvar 0) (.lit 0) 4 1) (.rcons (.sel (.rvar 0) (.lit 0) 4 2) (.rcons (.sel (.rvar 0) (.lit 0) 4 3) .rnil)))) .anil)) (.lit 0), false)], .ret (.tuple [.agg [.int .i64 0, .int .i64 0, .int .i64 0, .int .i64 0], .bool false]) ⟨0, .nil⟩), ([(.cmp .lss (.sel (.rvar 0) (.lit 0) 4 3) (.sel (.rvar 1) (.lit 0) 4 1), false), (.cmp .lss (.sel (.rvar 0) (.lit 0) 4 2) (.sel (.rvar 1) (.lit 0) 4 0), false), (.cmp .lss (.sel (.rvar 1) (.lit 0) 4 3) (.sel (.rvar 0) (.lit 0) 4 3), false), (.cmp .lss (.sel (.rvar 1) (.lit 0) 4 2) (.sel (.rvar 0) (.lit 0) 4 2), false), (.cmp .lss (.sel (.rvar 0) (.lit 0) 4 1) (.sel (.rvar 1) (.lit 0) 4 1), true), (.cmp .lss (.sel (.rvar 0) (.lit 0) 4 0) (.sel (.rvar 1) (.lit 0) 4 0), true), (.cmp .eql (.app 20 (.acons (.rcons (.sel (.rvar 1) (.lit 0) 4 0) (.rcons (.sel (.rvar 1) (.lit 0) 4 1) (.rcons (.sel (.rvar 1) (.lit 0) 4 2) (.rcons (.sel (.rvar 1) (.lit 0) 4 3) .rnil)))) .anil)) (.lit 0), false), (.cmp .eql (.app 20 (.acons (.rcons (.sel (.rvar 0) (.lit 0) 4 0) (.rcons (.sel (.rvar 0) (.lit 0) 4 1) (.rcons (.sel (.rvar 0) (.lit 0) 4 2) (.rcons (.sel (.rvar 0) (.lit 0) 4 3) .rnil)))) .anil)) (.lit 0), false)], .ret (.tuple [.agg [.sint .i64 (.sel (.rvar 1) (.lit 0) 4 0), .sint .i64 (.sel (.rvar 1) (.lit 0) 4 1), .sint .i64 (.sel (.rvar 0) (.lit 0) 4 2), .sint .i64 (.sel (.rvar 0) (.lit 0) 4 3)], .bool true]) ⟨0, .nil⟩), ([(.cmp .lss (.sel (.rvar 1) (.lit 0) 4 2) (.sel (.rvar 1) (.lit 0) 4 0), true), (.cmp .lss (.sel (.rvar 1) (.lit 0) 4 3) (.sel (.rvar 0) (.lit 0) 4 3), true), (.cmp .lss (.sel (.rvar 1) (.lit 0) 4 2) (.sel (.rvar 0) (.lit 0) 4 2), true), (.cmp .lss (.sel (.rvar 0) (.lit 0) 4 1) (.sel (.rvar 1) (.lit 0) 4 1), false), (.cmp .lss (.sel (.rvar 0) (.lit 0) 4 0) (.sel (.rvar 1) (.lit 0) 4 0), true), (.cmp .eql (.app 20 (.acons (.rcons (.sel (.rvar 1) (.lit 0) 4 0) (.rcons (.sel (.rvar 1) (.lit 0) 4 1) (.rcons (.sel (.rvar 1) (.lit 0) 4 2) (.rcons (.sel (.rvar 1) (.lit 0) 4 3) .rnil)))) .anil)) (.lit 0), false), (.cmp .eql (.app 20 (.acons (.rcons (.sel (.rvar 0) (.lit 0) 4 0) (.rcons (.sel (.rvar 0) (.lit 0) 4 1) (.rcons (.sel (.rvar 0) (.lit 0) 4 2) (.rcons (.sel (.rvar 0) (.lit 0) 4 3) .rnil)))) .anil)) (.lit 0), false)], .ret (.tuple [.agg [.int .i64 0, .int .i64 0, .int .i64 0, .int .i64 0], .bool false]) ⟨0, .nil⟩), ([(.cmp .lss (.sel (.rvar 1) (.lit 0) 4 3) (.sel (.rvar 0) (.lit 0) 4 1), true), (.cmp .lss (.sel (.rvar 1) (.lit 0) 4 2) (.sel (.rvar 1) (.lit 0) 4 0), false), (.cmp .lss (.sel (.rvar 1) (.lit 0) 4 3) (.sel (.rvar 0) (.lit 0) 4 3), true), (.cmp .lss (.sel (.rvar 1) (.lit 0) 4 2) (.sel (.rvar 0) (.lit 0) 4 2), true), (.cmp .lss (.sel (.rvar 0) (.lit 0) 4 1) (.sel (.rvar 1) (.lit 0) 4 1), false), (.cmp .lss (.sel (.rvar 0) (.lit 0) 4 0) (.sel (.rvar 1) (.lit 0) 4 0), true), (.cmp .eql (.app 20 (.acons (.rcons (.sel (.rvar 1) (.lit 0) 4 0) (.rcons (.sel (.rvar 1) (.lit 0) 4 1) (.rcons (.sel (.rvar 1) (.lit 0) 4 2) (.rcons (.sel (.rvar 1) (.lit 0) 4 3) .rnil)))) .anil)) (.lit 0), false), (.cmp .eql (.app 20 (.acons (.rcons (.sel (.rvar 0) (.lit 0) 4 0) (.rcons (.sel (.rvar 0) (.lit 0) 4 1) (.rcons (.sel (.rvar 0) (.lit 0) 4 2) (.rcons (.sel (.rvar 0) (.lit 0) 4 3) .rnil)))) .anil)) (.lit 0), false)], .ret (.tuple [.agg [.int .i64 0, .int .i64 0, .int .i64 0, .int .i64 0], .bool false]) ⟨0, .nil⟩), ([(.cmp .lss (.sel (.rvar 1) (.lit 0) 4 3) (.sel (.rvar 0) (.lit 0) 4 1), false), (.cmp .lss (.sel (.rvar 1) (.lit 0) 4 2) (.sel (.rvar 1) (.lit 0) 4 0), false), (.cmp .lss (.sel (.rvar 1) (.lit 0) 4 3) (.sel (.rvar 0) (.lit 0) 4 3), true), (.cmp .lss (.sel (.rvar 1) (.lit 0) 4 2) (.sel (.rvar 0) (.lit 0) 4 2), true), (.cmp .lss (.sel (.rvar 0) (.lit 0) 4 1) (.sel (.rvar 1) (.lit 0) 4 1), false), (.cmp .lss (.sel (.rvar 0) (.lit 0) 4 0) (.sel (.rvar 1) (.lit 0) 4 0), true), (.cmp .eql (.app 20 (.acons (.rcons (.sel (.rvar 1) (.lit 0) 4 0) (.rcons (.sel (.rvar 1) (.lit 0) 4 1) (.rcons (.sel (.rvar 1) (.lit 0) 4 2) (.rcons (.sel (.rvar 1) (.lit 0) 4 3) .rnil)))) .anil)) (.lit 0), false), (.cmp .eql (.app 20 (.acons (.rcons (.sel (.rvar 0) (.lit 0) 4 0) (.rcons (.sel (.rvar 0) (.lit 0) 4 1) (.rcons (.sel (.rvar 0) (.lit 0) 4 2) (.rcons (.sel (.rvar 0) (.lit 0) 4 3) .rnil)))) .anil)) (.lit 0), false)], .ret (.tuple [.agg [.sint .i64 (.sel (.rvar 1) (.lit 0) 4 0), .sint .i64 (.sel (.rvar 0) (.lit 0) 4 1), .sint .i64 (.sel (.rvar 1) (.lit 0) 4 2), .sint .i64 (.sel (.rvar 1) (.lit 0) 4 3)], .bool true]) ⟨0, .nil⟩), ([(.cmp .lss (.sel (.rvar 1) (.lit 0) 4 2) (.sel (.rvar 1) (.lit 0) 4 0), true), (.cmp .lss (.sel (.rvar 1) (.lit 0) 4 3) (.sel (.rvar 0) (.lit 0) 4 3), false), (.cmp .lss (.sel (.rvar 1) (.lit 0) 4 2) (.sel (.rvar 0) (.lit 0) 4 2), true), (.cmp .lss (.sel (.rvar 0) (.lit 0) 4 1) (.sel (.rvar 1) (.lit 0) 4 1), false), (.cmp .lss (.sel (.rvar 0) (.lit 0) 4 0) (.sel (.rvar 1) (.lit 0) 4 0), true), (.cmp .eql (.app 20 (.acons (.rcons (.sel (.rvar 1) (.lit 0) 4 0) (.rcons (.sel (.rvar 1) (.lit 0) 4 1) (.rcons (.sel (.rvar 1) (.lit 0) 4 2) (.rcons (.sel (.rvar 1) (.lit 0) 4 3) .rnil)))) .anil)) (.lit 0), false), (.cmp .eql (.app 20 (.acons (.rcons (.sel (.rvar 0) (.lit 0) 4 0) (.rcons (.sel (.rvar 0) (.lit 0) 4 1) (.rcons (.sel (.rvar 0) (.lit 0) 4 2) (.rcons (.sel (.rvar 0) (.lit 0) 4 3) .rnil)))) .anil)) (.lit 0), false)], .ret (.tuple [.agg [.int .i64 0, .int .i64 0, .int .i64 0, .int .i64 0], .bool false]) ⟨0, .nil⟩), ([(.cmp .lss (.sel (.rvar 0) (.lit 0) 4 3) (.sel (.rvar 0) (.lit 0) 4 1), true), (.cmp .lss (.sel (.rvar 1) (.lit 0) 4 2) (.sel (.rvar 1) (.lit 0) 4 0), false), (.cmp .lss (.sel (.rvar 1) (.lit 0) 4 3) (.sel (.rvar 0) (.lit 0) 4 3), false), (.cmp .lss (.sel (.rvar 1) (.lit 0) 4 2) (.sel (.rvar 0) (.lit 0) 4 2), true), (.cmp .lss (.sel (.rvar 0) (.lit 0) 4 1) (.sel (.rvar 1) (.lit 0) 4 1), false), (.cmp .lss (.sel (.rvar 0) (.lit 0) 4 0) (.sel (.rvar 1) (.lit 0) 4 0), true), (.cmp .eql (.app 20 (.acons (.rcons (.sel (.rvar 1) (.lit 0) 4 0) (.rcons (.sel (.rvar 1) (.lit 0) 4 1) (.rcons (.sel (.rvar 1) (.lit 0) 4 2) (.rcons (.sel (.rvar 1) (.lit 0) 4 3) .rnil)))) .anil)) (.lit 0), false), (.cmp .eql (.app 20 (.acons (.rcons (.sel (.rvar 0) (.lit 0) 4 0) (.rcons (.sel (.rvar 0) (.lit 0) 4 1) (.rcons (.sel (.rvar 0) (.lit 0) 4 2) (.rcons (.sel (.rvar 0) (.lit 0) 4 3) .rnil)))) .anil)) (.lit 0), false)], .ret (.tuple [.agg [.int .i64 0, .int .i64 0, .int .i64 0, .int .i64 0], .bool false]) ⟨0, .nil⟩), ([(.cmp .lss (.sel (.rvar 0) (.lit 0) 4 3) (.sel (.rvar 0) (.lit 0) 4 1), false), (.cmp .lss (.sel (.rvar 1) (.lit 0) 4 2) (.sel (.rvar 1) (.lit 0) 4 0), false), (.cmp .lss (.sel (.rvar 1) (.lit 0) 4 3) (.sel (.rvar 0) (.lit 0) 4 3), false), (.cmp .lss (.sel (.rvar 1) (.lit 0) 4 2) (.sel (.rvar 0) (.lit 0) 4 2), true), (.cmp .lss (.sel (.rvar 0) (.lit 0) 4 1) (.sel (.rvar 1) (.lit 0) 4 1), false), (.cmp .lss (.sel (.rvar 0) (.lit 0) 4 0) (.sel (.rvar 1) (.lit 0) 4 0), true), (.cmp .eql (.app 20 (.acons (.rcons (.sel (.rvar 1) (.lit 0) 4 0) (.rcons (.sel (.rvar 1) (.lit 0) 4 1) (.rcons (.sel (.rvar 1) (.lit 0) 4 2) (.rcons (.sel (.rvar 1) (.lit 0) 4 3) .rnil)))) .anil)) (.lit 0), false), (.cmp .eql (.app 20 (.acons (.rcons (.sel (.rvar 0) (.lit 0) 4 0) (.rcons (.sel (.rvar 0) (.lit 0) 4 1) (.rcons (.sel (.rvar 0) (.lit 0) 4 2) (.rcons (.sel (.rvar 0) (.lit 0) 4 3) .rnil)))) .anil)) (.lit 0), false)], .ret (.tuple [.agg [.sint .i64 (.sel (.rvar 1) (.lit 0) 4 0), .sint .i64 (.sel (.rvar 0) (.lit 0) 4 1), .sint .i64 (.sel (.rvar 1) (.lit 0) 4 2), .sint .i64 (.sel (.rvar 0) (.lit 0) 4 3)], .bool true]) ⟨0, .nil⟩), ([(.cmp .lss (.sel (.rvar 0) (.lit 0) 4 2) (.sel (.rvar 1) (.lit 0) 4 0), true), (.cmp .lss (.sel (.rvar 1) (.lit 0) 4 3) (.sel (.rvar 0) (.lit 0) 4 3), true), (.cmp .lss (.sel (.rvar 1) (.lit 0) 4 2) (.sel (.rvar 0) (.lit 0) 4 2), false), (.cmp .lss (.sel (.rvar 0) (.lit 0) 4 1) (.sel (.rvar 1) (.lit 0) 4 1), false), (.cmp .lss (.sel (.rvar 0) (.lit 0) 4 0) (.sel (.rvar 1) (.lit 0) 4 0), true), (.cmp .eql (.app 20 (.acons (.rcons (.sel (.rvar 1) (.lit 0) 4 0) (.rcons (.sel (.rvar 1) (.lit 0) 4 1) (.rcons (.sel (.rvar 1) (.lit 0) 4 2) (.rcons (.sel (.rvar 1) (.lit 0) 4 3) .rnil)))) .anil)) (.lit 0), false), (.cmp .eql (.app 20 (.acons (.rcons (.sel (.rvar 0) (.lit 0) 4 0) (.rcons (.sel (.rvar 0) (.lit 0) 4 1) (.rcons (.sel (.rvar 0) (.lit 0) 4 2) (.rcons (.sel (.rvar 0) (.lit 0) 4 3) .rnil)))) .anil)) (.lit 0), false)], .ret (.tuple [.agg [.int .i64 0, .int .i64 0, .int .i64 0, .int .i64 0], .bool false]) ⟨0, .nil⟩), ([(.cmp .lss (.sel (.rvar 1) (.lit 0) 4 3) (.sel (.rvar 0) (.lit 0) 4 1), true), (.cmp .lss (.sel (.rvar 0) (.lit 0) 4 2) (.sel (.rvar 1) (.lit 0) 4 0), false), (.cmp .lss (.sel (.rvar 1) (.lit 0) 4 3) (.sel (.rvar 0) (.lit 0) 4 3), true), (.cmp .lss (.sel (.rvar 1) (.lit 0) 4 2) (.sel (.rvar 0) (.lit 0) 4 2), false), (.cmp .lss (.sel (.rvar 0) (.lit 0) 4 1) (.sel (.rvar 1) (.lit 0) 4 1), false), (.cmp .lss (.sel (.rvar 0) (.lit 0) 4 0) (.sel (.rvar 1) (.lit 0) 4 0), true), (.cmp .eql (.app 20 (.acons (.rcons (.sel (.rvar 1) (.lit 0) 4 0) (.rcons (.sel (.rvar 1) (.lit 0) 4 1) (.rcons (.sel (.rvar 1) (.lit 0) 4 2) (.rcons (.sel (.rvar 1) (.lit 0) 4 3) .rnil)))) .anil)) (.lit 0), false), (.cmp .eql (.app 20 (.acons (.rcons (.sel (.rvar 0) (.lit 0) 4 0) (.rcons (.sel (.rvar 0) (.lit 0) 4 1) (.rcons (.sel (.rvar 0) (.lit 0) 4 2) (.rcons (.sel (.rvar 0) (.lit 0) 4 3) .rnil)))) .anil)) (.lit 0), false)], .ret (.tuple [.agg [.int .i64 0, .int .i64 0, .int .i64 0, .int .i64 0], .bool false]) ⟨0, .nil⟩), ([(.cmp .lss (.sel (.rvar 1) (.lit 0) 4 3) (.sel (.rvar 0) (.lit 0) 4 1), false), (.cmp .lss (.sel (.rvar 0) (.lit 0) 4 2) (.sel (.rvar 1) (.lit 0) 4 0), false), (.cmp .lss (.sel (.rvar 1) (.lit 0) 4 3) (.sel (.rvar 0) (.lit 0) 4 3), true), (.cmp .lss (.sel (.rvar 1) (.lit 0) 4 2) (.sel (.rvar 0) (.lit 0) 4 2), false), (.cmp .lss (.sel (.rvar 0) (.lit 0) 4 1) (.sel (.rvar 1) (.lit 0) 4 1), false), (.cmp .lss (.sel (.rvar 0) (.lit 0) 4 0) (.sel (.rvar 1) (.lit 0) 4 0), true), (.cmp .eql (.app 20 (.acons (.rcons (.sel (.rvar 1) (.lit 0) 4 0) (.rcons (.sel (.rvar 1) (.lit 0) 4 1) (.rcons (.sel (.rvar 1) (.lit 0) 4 2) (.rcons (.sel (.rvar 1) (.lit 0) 4 3) .rnil)))) .anil)) (.lit 0), false), (.cmp .eql (.app 20 (.acons (.rcons (.sel (.rvar 0) (.lit 0) 4 0) (.rcons (.sel (.rvar 0) (.lit 0) 4 1) (.rcons (.sel (.rvar 0) (.lit 0) 4 2) (.rcons (.sel (.rvar 0) (.lit 0) 4 3) .rnil)))) .anil)) (.lit 0), false)], .ret (.tuple [.agg [.sint .i64 (.sel (.rvar 1) (.lit 0) 4 0), .sint .i64 (.sel (.rvar 0) (.lit 0) 4 1), .sint .i64 (.sel (.rvar 0) (.lit 0) 4 2), .sint .i64 (.sel (.rvar 1) (.lit 0) 4 3)], .bool true]) ⟨0, .nil⟩), ([(.cmp .lss (.sel (.rvar 0) (.lit 0) 4 2) (.sel (.rvar 1) (.lit 0) 4 0), true), (.cmp .lss (.sel (.rvar 1) (.lit 0) 4 3) (.sel (.rvar 0) (.lit 0) 4 3), false), (.cmp .lss (.sel (.rvar 1) (.lit 0) 4 2) (.sel (.rvar 0) (.lit 0) 4 2), false), (.cmp .lss (.sel (.rvar 0) (.lit 0) 4 1) (.sel (.rvar 1) (.lit 0) 4 1), false), (.cmp .lss (.sel (.rvar 0) (.lit 0) 4 0) (.sel (.rvar 1) (.lit 0) 4 0), true), (.cmp .eql (.app 20 (.acons (.rcons (.sel (.rvar 1) (.lit 0) 4 0) (.rcons (.sel (.rvar 1) (.lit 0) 4 1) (.rcons (.sel (.rvar 1) (.lit 0) 4 2) (.rcons (.sel (.rvar 1) (.lit 0) 4 3) .rnil)))) .anil)) (.lit 0), false), (.cmp .eql (.app 20 (.acons (.rcons (.sel (.rvar 0) (.lit 0) 4 0) (.rcons (.sel (.rvar 0) (.lit 0) 4 1) (.rcons (.sel (.rvar 0) (.lit 0) 4 2) (.rcons (.sel (.rvar 0) (.lit 0) 4 3) .rnil)))) .anil)) (.lit 0), false)], .ret (.tuple [.agg [.int .i64 0, .int .i64 0, .int .i64 0, .int .i64 0], .bool false]) ⟨0, .nil⟩), ([(.cmp .lss (.sel (.rvar 0) (.lit 0) 4 3) (.sel (.rvar 0) (.lit 0) 4 1), true), (.cmp .lss (.sel (.rvar 0) (.lit 0) 4 2) (.sel (.rvar 1) (.lit 0) 4 0), false), (.cmp .lss (.sel (.rvar 1) (.lit 0) 4 3) (.sel (.rvar 0) (.lit 0) 4 3), false), (.cmp .lss (.sel (.rvar 1) (.lit 0) 4 2) (.sel (.rvar 0) (.lit 0) 4 2), false), (.cmp .lss (.sel (.rvar 0) (.lit 0) 4 1) (.sel (.rvar 1) (.lit 0) 4 1), false), (.cmp .lss (.sel (.rvar 0) (.lit 0) 4 0) (.sel (.rvar 1) (.lit 0) 4 0), true), (.cmp .eql (.app 20 (.acons (.rcons (.sel (.rvar 1) (.lit 0) 4 0) (.rcons (.sel (.rvar 1) (.lit 0) 4 1) (.rcons (.sel (.rvar 1) (.lit 0) 4 2) (.rcons (.sel (.rvar 1) (.lit 0) 4 3) .rnil)))) .anil)) (.lit 0), false), (.cmp .eql (.app 20 (.acons (.rcons (.sel (.rvar 0) (.lit 0) 4 0) (.rcons (.sel (.rvar 0) (.lit 0) 4 1) (.rcons (.sel (.rvar 0) (.lit 0) 4 2) (.rcons (.sel (.rvar 0) (.lit 0) 4 3) .rnil)))) .anil)) (.lit 0), false)], .ret (.tuple [.agg [.int .i64 0, .int .i64 0, .int .i64 0, .int .i64 0], .bool false]) ⟨0, .nil⟩), ([(.cmp .lss (.sel (.rvar 0) (.lit 0) 4 3) (.sel (.rvar 0) (.lit 0) 4 1), false), (.cmp .lss (.sel (.rvar 0) (.lit 0) 4 2) (.sel (.rvar 1) (.lit 0) 4 0), false), (.cmp .lss (.sel (.rvar 1) (.lit 0) 4 3) (.sel (.rvar 0) (.lit 0) 4 3), false), (.cmp .lss (.sel (.rvar 1) (.lit 0) 4 2) (.sel (.rvar 0) (.lit 0) 4 2), false), (.cmp .lss (.sel (.rvar 0) (.lit 0) 4 1) (.sel (.rvar 1) (.lit 0) 4 1), false), (.cmp .lss (.sel (.rvar 0) (.lit 0) 4 0) (.sel (.rvar 1) (.lit 0) 4 0), true), (.cmp .eql (.app 20 (.acons (.rcons (.sel (.rvar 1) (.lit 0) 4 0) (.rcons (.sel (.rvar 1) (.lit 0) 4 1) (.rcons (.sel (.rvar 1) (.lit 0) 4 2) (.rcons (.sel (.rvar 1) (.lit 0) 4 3) .rnil)))) .anil)) (.lit 0), false), (.cmp .eql (.app 20 (.acons (.rcons (.sel (.rvar 0) (.lit 0) 4 0) (.rcons (.sel (.rvar 0) (.lit 0) 4 1) (.rcons (.sel (.rvar 0) (.lit 0) 4 2) (.rcons (.sel (.rvar 0) (.lit 0) 4 3) .rnil)))) .anil)) (.lit 0), false)], .ret (.tuple [.agg [.sint .i64 (.sel (.rvar 1) (.lit 0) 4 0), .sint .i64 (.sel (.rvar 0) (.lit 0) 4 1), .sint .i64 (.sel (.rvar 0) (.lit 0) 4 2), .sint .i64 (.sel (.rvar 0) (.lit 0) 4 3)], .bool true]) ⟨0, .nil⟩), ([(.cmp .lss (.sel (.rvar 1) (.lit 0) 4 2) (.sel (.rvar 0) (.lit 0) 4 0), true), (.cmp .lss (.sel (.rvar 1) (.lit 0) 4 3) (.sel (.rvar 0) (.lit 0) 4 3), true), (.cmp .lss (.sel (.rvar 1) (.lit 0) 4 2) (.sel (.rvar 0) (.lit 0) 4 2), true), (.cmp .lss (.sel (.rvar 0) (.lit 0) 4 1) (.sel (.rvar 1) (.lit 0) 4 1), true), (.cmp .lss (.sel (.rvar 0) (.lit 0) 4 0) (.sel (.rvar 1) (.lit 0) 4 0), false), (.cmp .eql (.app 20 (.acons (.rcons (.sel (.rvar 1) (.lit 0) 4 0) (.rcons (.sel (.rvar 1) (.lit 0) 4 1) (.rcons (.sel (.rvar 1) (.lit 0) 4 2) (.rcons (.sel (.rvar 1) (.lit 0) 4 3) .rnil)))) .anil)) (.lit 0), false), (.cmp .eql (.app 20 (.acons (.rcons (.sel (.rvar 0) (.lit 0) 4 0) (.rcons (.sel (.rvar 0) (.lit 0) 4 1) (.rcons (.sel (.rvar 0) (.lit 0) 4 2) (.rcons (.sel (.rvar 0) (.lit 0) 4 3) .rnil)))) .anil)) (.lit 0), false)], .ret (.tuple [.agg [.int .i64 0, .int .i64 0, .int .i64 0, .int .i64 0], .bool false]) ⟨0, .nil⟩), ([(.cmp .lss (.sel (.rvar 1) (.lit 0) 4 3) (.sel (.rvar 1) (.lit 0) 4 1), true), (.cmp .lss (.sel (.rvar 1) (.lit 0) 4 2) (.sel (.rvar 0) (.lit 0) 4 0), false), (.cmp .lss (.sel (.rvar 1) (.lit 0) 4 3) (.sel (.rvar 0) (.lit 0) 4 3), true), (.cmp .lss (.sel (.rvar 1) (.lit 0) 4 2) (.sel (.rvar 0) (.lit 0) 4 2), true), (.cmp .lss (.sel (.rvar 0) (.lit 0) 4 1) (.sel (.rvar 1) (.lit 0) 4 1), true), (.cmp .lss (.sel (.rvar 0) (.lit 0) 4 0) (.sel (.rvar 1) (.lit 0) 4 0), false), (.cmp .eql (.app 20 (.acons (.rcons (.sel (.rvar 1) (.lit 0) 4 0) (.rcons (.sel (.rvar 1) (.lit 0) 4 1) (.rcons (.sel (.rvar 1) (.lit 0) 4 2) (.rcons (.sel (.rvar 1) (.lit 0) 4 3) .rnil)))) .anil)) (.lit 0), false), (.cmp .eql (.app 20 (.acons (.rcons (.sel (.rvar 0) (.lit 0) 4 0) (.rcons (.sel (.rvar 0) (.lit 0) 4 1) (.rcons (.sel (.rvar 0) (.lit 0) 4 2) (.rcons (.sel (.rvar 0) (.lit 0) 4 3) .rnil)))) .anil)) (.lit 0), false)], .ret (.tuple [.agg [.int .i64 0, .int .i64 0, .int .i64 0, .int .i64 0], .bool false]) ⟨0, .nil⟩), ([(.cmp .lss (.sel (.rvar 1) (.lit 0) 4 3) (.sel (.rvar 1) (.lit 0) 4 1), false), (.cmp .lss (.sel (.rvar 1) (.lit 0) 4 2) (.sel (.rvar 0) (.lit 0) 4 0), false), (.cmp .lss (.sel (.rvar 1) (.lit 0) 4 3) (.sel (.rvar 0) (.lit 0) 4 3), true), (.cmp .lss (.sel (.rvar 1) (.lit 0) 4 2) (.sel (.rvar 0) (.lit 0) 4 2), true), (.cmp .lss (.sel (.rvar 0) (.lit 0) 4 1) (.sel (.rvar 1) (.lit 0) 4 1), true), (.cmp .lss (.sel (.rvar 0) (.lit 0) 4 0) (.sel (.rvar 1) (.lit 0) 4 0), false), (.cmp .eql (.app 20 (.acons (.rcons (.sel (.rvar 1) (.lit 0) 4 0) (.rcons (.sel (.rvar 1) (.lit 0) 4 1) (.rcons (.sel (.rvar 1) (.lit 0) 4 2) (.rcons (.sel (.rvar 1) (.lit 0) 4 3) .rnil)))) .anil)) (.lit 0), false), (.cmp .eql (.app 20 (.acons (.rcons (.sel (.rvar 0) (.lit 0) 4 0) (.rcons (.sel (.rvar 0) (.lit 0) 4 1) (.rcons (.sel (.rvar 0) (.lit 0) 4 2) (.rcons (.sel (.rvar 0) (.lit 0) 4 3) .rnil)))) .anil)) (.lit 0), false)], .ret (.tuple [.agg [.sint .i64 (.sel (.rvar 0) (.lit 0) 4 0), .sint .i64 (.sel (.rvar 1) (.lit 0) 4 1), .sint .i64 (.sel (.rvar 1) (.lit 0) 4 2), .sint .i64 (.sel (.rvar 1) (.lit 0) 4 3)], .bool true]) ⟨0, .nil⟩), ([(.cmp .lss (.sel (.rvar 1) (.lit 0) 4 2) (.sel (.rvar 0) (.lit 0) 4 0), true), (.cmp .lss (.sel (.rvar 1) (.lit 0) 4 3) (.sel (.rvar 0) (.lit 0) 4 3), false), (.cmp .lss (.sel (.rvar 1) (.lit 0) 4 2) (.sel (.rvar 0) (.lit 0) 4 2), true), (.cmp .lss (.sel (.rvar 0) (.lit 0) 4 1) (.sel (.rvar 1) (.lit 0) 4 1), true), (.cmp .lss (.sel (.rvar 0) (.lit 0) 4 0) (.sel (.rvar 1) (.lit 0) 4 0), false), (.cmp .eql (.app 20 (.acons (.rcons (.sel (.rvar 1) (.lit 0) 4 0) (.rcons (.sel (.rvar 1) (.lit 0) 4 1) (.rcons (.sel (.rvar 1) (.lit 0) 4 2) (.rcons (.sel (.rvar 1) (.lit 0) 4 3) .rnil)))) .anil)) (.lit 0), false), (.cmp .eql (.app 20 (.acons (.rcons (.sel (.rvar 0) (.lit 0) 4 0) (.rcons (.sel (.rvar 0) (.lit 0) 4 1) (.rcons (.sel (.rvar 0) (.lit 0) 4 2) (.rcons (.sel (.rvar 0) (.lit 0) 4 3) .rnil)))) .anil)) (.lit 0), false)], .ret (.tuple [.agg [.int .i64 0, .int .i64 0, .int .i64 0, .int .i64 0], .bool false]) ⟨0, .nil⟩), ([(.cmp .lss (.sel (.rvar 0) (.lit 0) 4 3) (.sel (.rvar 1) (.lit 0) 4 1), true), (.cmp .lss (.sel (.rvar 1) (.lit 0) 4 2) (.sel (.rvar 0) (.lit 0) 4 0), false), (.cmp .lss (.sel (.rvar 1) (.lit 0) 4 3) (.sel (.rvar 0) (.lit 0) 4 3), false), (.cmp .lss (.sel (.rvar 1) (.lit 0) 4 2) (.sel (.rvar 0) (.lit 0) 4 2), true), (.cmp .lss (.sel (.rvar 0) (.lit 0) 4 1) (.sel (.rvar 1) (.lit 0) 4 1), true), (.cmp .lss (.sel (.rvar 0) (.lit 0) 4 0) (.sel (.rvar 1) (.lit 0) 4 0), false), (.cmp .eql (.app 20 (.acons (.rcons (.sel (.rvar 1) (.lit 0) 4 0) (.rcons (.sel (.rvar 1) (.lit 0) 4 1) (.rcons (.sel (.rvar 1) (.lit 0) 4 2) (.rcons (.sel (.rvar 1) (.lit 0) 4 3) .rnil)))) .anil)) (.lit 0), false), (.cmp .eql (.app 20 (.acons (.rcons (.sel (.rvar 0) (.lit 0) 4 0) (.rcons (.sel (.rvar 0) (.lit 0) 4 1) (.rcons (.sel (.rvar 0) (.lit 0) 4 2) (.rcons (.sel (.rvar 0) (.lit 0) 4 3) .rnil)))) .anil)) (.lit 0), false)], .ret (.tuple [.agg [.int .i64 0, .int .i64 0, .int .i64 0, .int .i64 0], .bool false]) ⟨0, .nil⟩), ([(.cmp .lss (.sel (.rvar 0) (.lit 0) 4 3) (.sel (.rvar 1) (.lit 0) 4 1), false), (.cmp .lss (.sel (.rvar 1) (.lit 0) 4 2) (.sel (.rvar 0) (.lit 0) 4 0), false), (.cmp .lss (.sel (.rvar 1) (.lit 0) 4 3) (.sel (.rvar 0) (.lit 0) 4 3), false), (.cmp .lss (.sel (.rvar 1) (.lit 0) 4 2) (.sel (.rvar 0) (.lit 0) 4 2), true), (.cmp .lss (.sel (.rvar 0) (.lit 0) 4 1) (.sel (.rvar 1) (.lit 0) 4 1), true), (.cmp .lss (.sel (.rvar 0) (.lit 0) 4 0) (.sel (.rvar 1) (.lit 0) 4 0), false), (.cmp .eql (.app 20 (.acons (.rcons (.sel (.rvar 1) (.lit 0) 4 0) (.rcons (.sel (.rvar 1) (.lit 0) 4 1) (.rcons (.sel (.rvar 1) (.lit 0) 4 2) (.rcons (.sel (.rvar 1) (.lit 0) 4 3) .rnil)))) .anil)) (.lit 0), false), (.cmp .eql (.app 20 (.acons (.rcons (.sel (.rvar 0) (.lit 0) 4 0) (.rcons (.sel (.rvar 0) (.lit 0) 4 1) (.rcons (.sel (.rvar 0) (.lit 0) 4 2) (.rcons (.sel (.rvar 0) (.lit 0) 4 3) .rnil)))) .anil)) (.lit 0), false)], .ret (.tuple [.agg [.sint .i64 (.sel (.rvar 0) (.lit 0) 4 0), .sint .i64 (.sel (.rvar 1) (.lit 0) 4 1), .sint .i64 (.sel (.rvar 1) (.lit 0) 4 2), .sint .i64 (.sel (.rvar 0) (.lit 0) 4 3)], .bool true]) ⟨0, .nil⟩), ([(.cmp .lss (.sel (.rvar 0) (.lit 0) 4 2) (.sel (.rvar 0) (.lit 0) 4 0), true), (.cmp .lss (.sel (.rvar 1) (.lit 0) 4 3) (.sel (.rvar 0) (.lit 0) 4 3), true), (.cmp .lss (.sel (.rvar 1) (.lit 0) 4 2) (.sel (.rvar 0) (.lit 0) 4 2), false), (.cmp .lss (.sel (.rvar 0) (.lit 0) 4 1) (.sel (.rvar 1) (.lit 0) 4 1), true), (.cmp .lss (.sel (.rvar 0) (.lit 0) 4 0) (.sel (.rvar 1) (.lit 0) 4 0), false), (.cmp .eql (.app 20 (.acons (.rcons (.sel (.rvar 1) (.lit 0) 4 0) (.rcons (.sel (.rvar 1) (.lit 0) 4 1) (.rcons (.sel (.rvar 1) (.lit 0) 4 2) (.rcons (.sel (.rvar 1) (.lit 0) 4 3) .rnil)))) .anil)) (.lit 0), false), (.cmp .eql (.app 20 (.acons (.rcons (.sel (.rvar 0) (.lit 0) 4 0) (.rcons (.sel (.rvar 0) (.lit 0) 4 1) (.rcons (.sel (.rvar 0) (.lit 0) 4 2) (.rcons (.sel (.rvar 0) (.lit 0) 4 3) .rnil)))) .anil)) (.lit 0), false)], .ret (.tuple [.agg [.int .i64 0, .int .i64 0, .int .i64 0, .int .i64 0], .bool false]) ⟨0, .nil⟩), ([(.cmp .lss (.sel (.rvar 1) (.lit 0) 4 3) (.sel (.rvar 1) (.lit 0) 4 1), true), (.cmp .lss (.sel (.rvar 0) (.lit 0) 4 2) (.sel (.rvar 0) (.lit 0) 4 0), false), (.cmp .lss (.sel (.rvar 1) (.lit 0) 4 3) (.sel (.rvar 0) (.lit 0) 4 3), true), (.cmp .lss (.sel (.rvar 1) (.lit 0) 4 2) (.sel (.rvar 0) (.lit 0) 4 2), false), (.cmp .lss (.sel (.rvar 0) (.lit 0) 4 1) (.sel (.rvar 1) (.lit 0) 4 1), true), (.cmp .lss (.sel (.rvar 0) (.lit 0) 4 0) (.sel (.rvar 1) (.lit 0) 4 0), false), (.cmp .eql (.app 20 (.acons (.rcons (.sel (.rvar 1) (.lit 0) 4 0) (.rcons (.sel (.rvar 1) (.lit 0) 4 1) (.rcons (.sel (.rvar 1) (.lit 0) 4 2) (.rcons (.sel (.rvar 1) (.lit 0) 4 3) .rnil)))) .anil)) (.lit 0), false), (.cmp .eql (.app 20 (.acons (.rcons (.sel (.rvar 0) (.lit 0) 4 0) (.rcons (.sel (.rvar 0) (.lit 0) 4 1) (.rcons (.sel (.rvar 0) (.lit 0) 4 2) (.rcons (.sel (.rvar 0) (.lit 0) 4 3) .rnil)))) .anil)) (.lit 0), false)], .ret (.tuple [.agg [.int .i64 0, .int .i64 0, .int .i64 0, .int .i64 0], .bool false]) ⟨0, .nil⟩), ([(.cmp .lss (.sel (.rvar 1) (.lit 0) 4 3) (.sel (.rvar 1) (.lit 0) 4 1), false), (.cmp .lss (.sel (.rvar 0) (.lit 0) 4 2) (.sel (.rvar 0) (.lit 0) 4 0), false), (.cmp .lss (.sel (.rvar 1) (.lit 0) 4 3) (.sel (.rvar 0) (.lit 0) 4 3), true), (.cmp .lss (.sel (.rvar 1) (.lit 0) 4 2) (.sel (.rvar 0) (.lit 0) 4 2), false), (.cmp .lss (.sel (.rvar 0) (.lit 0) 4 1) (.sel (.rvar 1) (.lit 0) 4 1), true), (.cmp .lss (.sel (.rvar 0) (.lit 0) 4 0) (.sel (.rvar 1) (.lit 0) 4 0), false), (.cmp .eql (.app 20 (.acons (.rcons (.sel (.rvar 1) (.lit 0) 4 0) (.rcons (.sel (.rvar 1) (.lit 0) 4 1) (.rcons (.sel (.rvar 1) (.lit 0) 4 2) (.rcons (.sel (.rvar 1) (.lit 0) 4 3) .rnil)))) .anil)) (.lit 0), false), (.cmp .eql (.app 20 (.acons (.rcons (.sel (.rvar 0) (.lit 0) 4 0) (.rcons (.sel (.rvar 0) (.lit 0) 4 1) (.rcons (.sel (.rvar 0) (.lit 0) 4 2) (.rcons (.sel (.rvar 0) (.lit 0) 4 3) .rnil)))) .anil)) (.lit 0), false)], .ret (.tuple [.agg [.sint .i64 (.sel (.rvar 0) (.lit 0) 4 0), .sint .i64 (.sel (.rvar 1) (.lit 0) 4 1), .sint .i64 (.sel (.rvar 0) (.lit 0) 4 2), .sint .i64 (.sel (.rvar 1) (.lit 0) 4 3)], .bool true]) ⟨0, .nil⟩), ([(.cmp .lss (.sel (.rvar 0) (.lit 0) 4 2) (.sel (.rvar 0) (.lit 0) 4 0), true), (.cmp .lss (.sel (.rvar 1) (.lit 0) 4 3) (.sel (.rvar 0) (.lit 0) 4 3), false), (.cmp .lss (.sel (.rvar 1) (.lit 0) 4 2) (.sel (.rvar 0) (.lit 0) 4 2), false), (.cmp .lss (.sel (.rvar 0) (.lit 0) 4 1) (.sel (.rvar 1) (.lit 0) 4 1), true), (.cmp .lss (.sel (.rvar 0) (.lit 0) 4 0) (.sel (.rvar 1) (.lit 0) 4 0), false), (.cmp .eql (.app 20 (.acons (.rcons (.sel (.rvar 1) (.lit 0) 4 0) (.rcons (.sel (.rvar 1) (.lit 0) 4 1) (.rcons (.sel (.rvar 1) (.lit 0) 4 2) (.rcons (.sel (.rvar 1) (.lit 0) 4 3) .rnil)))) .anil)) (.lit 0), false), (.cmp .eql (.app 20 (.acons (.rcons (.sel (.rvar 0) (.lit 0) 4 0) (.rcons (.sel (.rvar 0) (.lit 0) 4 1) (.rcons (.sel (.rvar 0) (.lit 0) 4 2) (.rcons (.sel (.rvar 0) (.lit 0) 4 3) .rnil)))) .anil)) (.lit 0), false)], .ret (.tuple [.agg [.int .i64 0, .int .i64 0, .int .i64 0, .int .i64 0], .bool false]) ⟨0, .nil⟩), ([(.cmp .lss (.sel (.rvar 0) (.lit 0) 4 3) (.sel (.rvar 1) (.lit 0) 4 1), true), (.cmp .lss (.sel (.rvar 0) (.lit 0) 4 2) (.sel (.rvar 0) (.lit 0) 4 0), false), (.cmp .lss (.sel (.rvar 1) (.lit 0) 4 3) (.sel (.rvar 0) (.lit 0) 4 3), false), (.cmp .lss (.sel (.rvar 1) (.lit 0) 4 2) (.sel (.rvar 0) (.lit 0) 4 2), false), (.cmp .lss (.sel (.rvar 0) (.lit 0) 4 1) (.sel (.rvar 1) (.lit 0) 4 1), true), (.cmp .lss (.sel (.rvar 0) (.lit 0) 4 0) (.sel (.rvar 1) (.lit 0) 4 0), false), (.cmp .eql (.app 20 (.acons (.rcons (.sel (.rvar 1) (.lit 0) 4 0) (.rcons (.sel (.rvar 1) (.lit 0) 4 1) (.rcons (.sel (.rvar 1) (.lit 0) 4 2) (.rcons (.sel (.rvar 1) (.lit 0) 4 3) .rnil)))) .anil)) (.lit 0), false), (.cmp .eql (.app 20 (.acons (.rcons (.sel (.rvar 0) (.lit 0) 4 0) (.rcons (.sel (.rvar 0) (.lit 0) 4 1) (.rcons (.sel (.rvar 0) (.lit 0) 4 2) (.rcons (.sel (.rvar 0) (.lit 0) 4 3) .rnil)))) .anil)) (.lit 0), false)], .ret (.tuple [.agg [.int .i64 0, .int .i64 0, .int .i64 0, .int .i64 0], .bool false]) ⟨0, .nil⟩), ([(.cmp .lss (.sel (.rvar 0) (.lit 0) 4 3) (.sel (.rvar 1) (.lit 0) 4 1), false), (.cmp .lss (.sel (.rvar 0) (.lit 0) 4 2) (.sel (.rvar 0) (.lit 0) 4 0), false), (.cmp .lss (.sel (.rvar 1) (.lit 0) 4 3) (.sel (.rvar 0) (.lit 0) 4 3), false), (.cmp .lss (.sel (.rvar 1) (.lit 0) 4 2) (.sel (.rvar 0) (.lit 0) 4 2), false), (.cmp .lss (.sel (.rvar 0) (.lit 0) 4 1) (.sel (.rvar 1) (.lit 0) 4 1), true), (.cmp .lss (.sel (.rvar 0) (.lit 0) 4 0) (.sel (.rvar 1) (.lit 0) 4 0), false), (.cmp .eql (.app 20 (.acons (.rcons (.sel (.rvar 1) (.lit 0) 4 0) (.rcons (.sel (.rvar 1) (.lit 0) 4 1) (.rcons (.sel (.rvar 1) (.lit 0) 4 2) (.rcons (.sel (.rvar 1) (.lit 0) 4 3) .rnil)))) .anil)) (.lit 0), false), (.cmp .eql (.app 20 (.acons (.rcons (.sel (.rvar 0) (.lit 0) 4 0) (.rcons (.sel (.rvar 0) (.lit 0) 4 1) (.rcons (.sel (.rvar 0) (.lit 0) 4 2) (.rcons (.sel (.rvar 0) (.lit 0) 4 3) .rnil)))) .anil)) (.lit 0), false)], .ret (.tuple [.agg [.sint .i64 (.sel (.rvar 0) (.lit 0) 4 0), .sint .i64 (.sel (.rvar 1) (.lit 0) 4 1), .sint .i64 (.sel (.rvar 0) (.lit 0) 4 2), .sint .i64 (.sel (.rvar 0) (.lit 0) 4 3)], .bool true]) ⟨0, .nil⟩), ([(.cmp .lss (.sel (.rvar 1) (.lit 0) 4 2) (.sel (.rvar 0) (.lit 0) 4 0), true), (.cmp .lss (.sel (.rvar 1) (.lit 0) 4 3) (.sel (.rvar 0) (.lit 0) 4 3), true), (.cmp .lss (.sel (.rvar 1) (.lit 0) 4 2) (.sel (.rvar 0) (.lit 0) 4 2), true), (.cmp .lss (.sel (.rvar 0) (.lit 0) 4 1) (.sel (.rvar 1) (.lit 0) 4 1), false), (.cmp .lss (.sel (.rvar 0) (.lit 0) 4 0) (.sel (.rvar 1) (.lit 0) 4 0), false), (.cmp .eql (.app 20 (.acons (.rcons (.sel (.rvar 1) (.lit 0) 4 0) (.rcons (.sel (.rvar 1) (.lit 0) 4 1) (.rcons (.sel (.rvar 1) (.lit 0) 4 2) (.rcons (.sel (.rvar 1) (.lit 0) 4 3) .rnil)))) .anil)) (.lit 0), false), (.cmp .eql (.app 20 (.acons (.rcons (.sel (.rvar 0) (.lit 0) 4 0) (.rcons (.sel (.rvar 0) (.lit 0) 4 1) (.rcons (.sel (.rvar 0) (.lit 0) 4 2) (.rcons (.sel (.rvar 0) (.lit 0) 4 3) .rnil)))) .anil)) (.lit 0), false)], .ret (.tuple [.agg [.int .i64 0, .int .i64 0, .int .i64 0, .int .i64 0], .bool false]) ⟨0, .nil⟩), ([(.cmp .lss (.sel (.rvar 1) (.lit 0) 4 3) (.sel (.rvar 0) (.lit 0) 4 1), true), (.cmp .lss (.sel (.rvar 1) (.lit 0) 4 2) (.sel (.rvar 0) (.lit 0) 4 0), false), (.cmp .lss (.sel (.rvar 1) (.lit 0) 4 3) (.sel (.rvar 0) (.lit 0) 4 3), true), (.cmp .lss (.sel (.rvar 1) (.lit 0) 4 2) (.sel (.rvar 0) (.lit 0) 4 2), true), (.cmp .lss (.sel (.rvar 0) (.lit 0) 4 1) (.sel (.rvar 1) (.lit 0) 4 1), false), (.cmp .lss (.sel (.rvar 0) (.lit 0) 4 0) (.sel (.rvar 1) (.lit 0) 4 0), false), (.cmp .eql (.app 20 (.acons (.rcons (.sel (.rvar 1) (.lit 0) 4 0) (.rcons (.sel (.rvar 1) (.lit 0) 4 1) (.rcons (.sel (.rvar 1) (.lit 0) 4 2) (.rcons (.sel (.rvar 1) (.lit 0) 4 3) .rnil)))) .anil)) (.lit 0), false), (.cmp .eql (.app 20 (.acons (.rcons (.sel (.rvar 0) (.lit 0) 4 0) (.rcons (.sel (.rvar 0) (.lit 0) 4 1) (.rcons (.sel (.rvar 0) (.lit 0) 4 2) (.rcons (.sel (.rvar 0) (.lit 0) 4 3) .rnil)))) .anil)) (.lit 0), false)], .ret (.tuple [.agg [.int .i64 0, .int .i64 0, .int .i64 0, .int .i64 0], .bool false]) ⟨0, .nil⟩), ([(.cmp .lss (.sel (.rvar 1) (.lit 0) 4 3) (.sel (.rvar 0) (.lit 0) 4 1), false), (.cmp .lss (.sel (.rvar 1) (.lit 0) 4 2) (.sel (.rvar 0) (.lit 0) 4 0), false), (.cmp .lss (.sel (.rvar 1) (.lit 0) 4 3) (.sel (.rvar 0) (.lit 0) 4 3), true), (.cmp .lss (.sel (.rvar 1) (.lit 0) 4 2) (.sel (.rvar 0) (.lit 0) 4 2), true), (.cmp .lss (.sel (.rvar 0) (.lit 0) 4 1) (.sel (.rvar 1) (.lit 0) 4 1), false), (.cmp .lss (.sel (.rvar 0) (.lit 0) 4 0) (.sel (.rvar 1) (.lit 0) 4 0), false), (.cmp .eql (.app 20 (.acons (.rcons (.sel (.rvar 1) (.lit 0) 4 0) (.rcons (.sel (.rvar 1) (.lit 0) 4 1) (.rcons (.sel (.rvar 1) (.lit 0) 4 2) (.rcons (.sel (.rvar 1) (.lit 0) 4 3) .rnil)))) .anil)) (.lit 0), false), (.cmp .eql (.app 20 (.acons (.rcons (.sel (.rvar 0) (.lit 0) 4 0) (.rcons (.sel (.rvar 0) (.lit 0) 4 1) (.rcons (.sel (.rvar 0) (.lit 0) 4 2) (.rcons (.sel (.rvar 0) (.lit 0) 4 3) .rnil)))) .anil)) (.lit 0), false)], .ret (.tuple [.agg [.sint .i64 (.sel (.rvar 0) (.lit 0) 4 0), .sint .i64 (.sel (.rvar 0) (.lit 0) 4 1), .sint .i64 (.sel (.rvar 1) (.lit 0) 4 2), .sint .i64 (.sel (.rvar 1) (.lit 0) 4 3)], .bool true]) ⟨0, .nil⟩), ([(.cmp .lss (.sel (.rvar 1) (.lit 0) 4 2) (.sel (.rvar 0) (.lit 0) 4 0), true), (.cmp .lss (.sel (.rvar 1) (.lit 0) 4 3) (.sel (.rvar 0) (.lit 0) 4 3), false), (.cmp .lss (.sel (.rvar 1) (.lit 0) 4 2) (.sel (.rvar 0) (.lit 0) 4 2), true), (.cmp .lss (.sel (.rvar 0) (.lit 0) 4 1) (.sel (.rvar 1) (.lit 0) 4 1), false), (.cmp .lss (.sel (.rvar 0) (.lit 0) 4 0) (.sel (.rvar 1) (.lit 0) 4 0), false), (.cmp .eql (.app 20 (.acons (.rcons (.sel (.rvar 1) (.lit 0) 4 0) (.rcons (.sel (.rvar 1) (.lit 0) 4 1) (.rcons (.sel (.rvar 1) (.lit 0) 4 2) (.rcons (.sel (.rvar 1) (.lit 0) 4 3) .rnil)))) .anil)) (.lit 0), false), (.cmp .eql (.app 20 (.acons (.rcons (.sel (.rvar 0) (.lit 0) 4 0) (.rcons (.sel (.rvar 0) (.lit 0) 4 1) (.rcons (.sel (.rvar 0) (.lit 0) 4 2) (.rcons (.sel (.rvar 0) (.lit 0) 4 3) .rnil)))) .anil)) (.lit 0), false)], .ret (.tuple [.agg [.int .i64 0, .int .i64 0, .int .i64 0, .int .i64 0], .bool false]) ⟨0, .nil⟩), ([(.cmp .lss (.sel (.rvar 0) (.lit 0) 4 3) (.sel (.rvar 0) (.lit 0) 4 1), true), (.cmp .lss (.sel (.rvar 1) (.lit 0) 4 2) (.sel (.rvar 0) (.lit 0) 4 0), false), (.cmp .lss (.sel (.rvar 1) (.lit 0) 4 3) (.sel (.rvar 0) (.lit 0) 4 3), false), (.cmp .lss (.sel (.rvar 1) (.lit 0) 4 2) (.sel (.rvar 0) (.lit 0) 4 2), true), (.cmp .lss (.sel (.rvar 0) (.lit 0) 4 1) (.sel (.rvar 1) (.lit 0) 4 1), false), (.cmp .lss (.sel (.rvar 0) (.lit 0) 4 0) (.sel (.rvar 1) (.lit 0) 4 0), false), (.cmp .eql (.app 20 (.acons (.rcons (.sel (.rvar 1) (.lit 0) 4 0) (.rcons (.sel (.rvar 1) (.lit 0) 4 1) (.rcons (.sel (.rvar 1) (.lit 0) 4 2) (.rcons (.sel (.rvar 1) (.lit 0) 4 3) .rnil)))) .anil)) (.lit 0), false), (.cmp .eql (.app 20 (.acons (.rcons (.sel (.rvar 0) (.lit 0) 4 0) (.rcons (.sel (.rvar 0) (.lit 0) 4 1) (.rcons (.sel (.rvar 0) (.lit 0) 4 2) (.rcons (.sel (.rvar 0) (.lit 0) 4 3) .rnil)))) .anil)) (.lit 0), false)], .ret (.tuple [.agg [.int .i64 0, .int .i64 0, .int .i64 0, .int .i64 0], .bool false]) ⟨0, .nil⟩), ([(.cmp .lss (.sel (.rvar 0) (.lit 0) 4 3) (.sel (.rvar 0) (.lit 0) 4 1), false), (.cmp .lss (.sel (.rvar 1) (.lit 0) 4 2) (.sel (.rvar 0) (.lit 0) 4 0), false), (.cmp .lss (.sel (.rvar 1) (.lit 0) 4 3) (.sel (.rvar 0) (.lit 0) 4 3), false), (.cmp .lss (.sel (.rvar 1) (.lit 0) 4 2) (.sel (.rvar 0) (.lit 0) 4 2), true), (.cmp .lss (.sel (.rvar 0) (.lit 0) 4 1) (.sel (.rvar 1) (.lit 0) 4 1), false), (.cmp .lss (.sel (.rvar 0) (.lit 0) 4 0) (.sel (.rvar 1) (.lit 0) 4 0), false), (.cmp .eql (.app 20 (.acons (.rcons (.sel (.rvar 1) (.lit 0) 4 0) (.rcons (.sel (.rvar 1) (.lit 0) 4 1) (.rcons (.sel (.rvar 1) (.lit 0) 4 2) (.rcons (.sel (.rvar 1) (.lit 0) 4 3) .rnil)))) .anil)) (.lit 0), false), (.cmp .eql (.app 20 (.acons (.rcons (.sel (.rvar 0) (.lit 0) 4 0) (.rcons (.sel (.rvar 0) (.lit 0) 4 1) (.rcons (.sel (.rvar 0) (.lit 0) 4 2) (.rcons (.sel (.rvar 0) (.lit 0) 4 3) .rnil)))) .anil)) (.lit 0), false)], .ret (.tuple [.agg [.sint .i64 (.sel (.rvar 0) (.lit 0) 4 0), .sint .i64 (.sel (.rvar 0) (.lit 0) 4 1), .sint .i64 (.sel (.rvar 1) (.lit 0) 4 2), .sint .i64 (.sel (.rvar 0) (.lit 0) 4 3)], .bool true]) ⟨0, .nil⟩), ([(.cmp .lss (.sel (.rvar 0) (.lit 0) 4 2) (.sel (.rvar 0) (.lit 0) 4 0), true), (.cmp .lss (.sel (.rvar 1) (.lit 0) 4 3) (.sel (.rvar 0) (.lit 0) 4 3), true), (.cmp .lss (.sel (.rvar 1) (.lit 0) 4 2) (.sel (.rvar 0) (.lit 0) 4 2), false), (.cmp .lss (.sel (.rvar 0) (.lit 0) 4 1) (.sel (.rvar 1) (.lit 0) 4 1), false), (.cmp .lss (.sel (.rvar 0) (.lit 0) 4 0) (.sel (.rvar 1) (.lit 0) 4 0), false), (.cmp .eql (.app 20 (.acons (.rcons (.sel (.rvar 1) (.lit 0) 4 0) (.rcons (.sel (.rvar 1) (.lit 0) 4 1) (.rcons (.sel (.rvar 1) (.lit 0) 4 2) (.rcons (.sel (.rvar 1) (.lit 0) 4 3) .rnil)))) .anil)) (.lit 0), false), (.cmp .eql (.app 20 (.acons (.rcons (.sel (.rvar 0) (.lit 0) 4 0) (.rcons (.sel (.rvar 0) (.lit 0) 4 1) (.rcons (.sel (.rvar 0) (.lit 0) 4 2) (.rcons (.sel (.rvar 0) (.lit 0) 4 3) .rnil)))) .anil)) (.lit 0), false)], .ret (.tuple [.agg [.int .i64 0, .int .i64 0, .int .i64 0, .int .i64 0], .bool false]) ⟨0, .nil⟩), ([(.cmp .lss (.sel (.rvar 1) (.lit 0) 4 3) (.sel (.rvar 0) (.lit 0) 4 1), true), (.cmp .lss (.sel (.rvar 0) (.lit 0) 4 2) (.sel (.rvar 0) (.lit 0) 4 0), false), (.cmp .lss (.sel (.rvar 1) (.lit 0) 4 3) (.sel (.rvar 0) (.lit 0) 4 3), true), (.cmp .lss (.sel (.rvar 1) (.lit 0) 4 2) (.sel (.rvar 0) (.lit 0) 4 2), false), (.cmp .lss (.sel (.rvar 0) (.lit 0) 4 1) (.sel (.rvar 1) (.lit 0) 4 1), false), (.cmp .lss (.sel (.rvar 0) (.lit 0) 4 0) (.sel (.rvar 1) (.lit 0) 4 0), false), (.cmp .eql (.app 20 (.acons (.rcons (.sel (.rvar 1) (.lit 0) 4 0) (.rcons (.sel (.rvar 1) (.lit 0) 4 1) (.rcons (.sel (.rvar 1) (.lit 0) 4 2) (.rcons (.sel (.rvar 1) (.lit 0) 4 3) .rnil)))) .anil)) (.lit 0), false), (.cmp .eql (.app 20 (.acons (.rcons (.sel (.rvar 0) (.lit 0) 4 0) (.rcons (.sel (.rvar 0) (.lit 0) 4 1) (.rcons (.sel (.rvar 0) (.lit 0) 4 2) (.rcons (.sel (.rvar 0) (.lit 0) 4 3) .rnil)))) .anil)) (.lit 0), false)], .ret (.tuple [.agg [.int .i64 0, .int .i64 0, .int .i64 0, .int .i64 0], .bool false]) ⟨0, .nil⟩), ([(.cmp .lss (.sel (.rvar 1) (.lit 0) 4 3) (.sel (.rvar 0) (.lit 0) 4 1), false), (.cmp .lss (.sel (.rvar 0) (.lit 0) 4 2) (.sel (.rvar 0) (.lit 0) 4 0), false), (.cmp .lss (.sel (.rvar 1) (.lit 0) 4 3) (.sel (.rvar 0) (.lit 0) 4 3), true), (.cmp .lss (.sel (.rvar 1) (.lit 0) 4 2) (.sel (.rvar 0) (.lit 0) 4 2), false), (.cmp .lss (.sel (.rvar 0) (.lit 0) 4 1) (.sel (.rvar 1) (.lit 0) 4 1), false), (.cmp .lss (.sel (.rvar 0) (.lit 0) 4 0) (.sel (.rvar 1) (.lit 0) 4 0), false), (.cmp .eql (.app 20 (.acons (.rcons (.sel (.rvar 1) (.lit 0) 4 0) (.rcons (.sel (.rvar 1) (.lit 0) 4 1) (.rcons (.sel (.rvar 1) (.lit 0) 4 2) (.rcons (.sel (.rvar 1) (.lit 0) 4 3) .rnil)))) .anil)) (.lit 0), false), (.cmp .eql (.app 20 (.acons (.rcons (.sel (.rvar 0) (.lit 0) 4 0) (.rcons (.sel (.rvar 0) (.lit 0) 4 1) (.rcons (.sel (.rvar 0) (.lit 0) 4 2) (.rcons (.sel (.rvar 0) (.lit 0) 4 3) .rnil)))) .anil)) (.lit 0), false)], .ret (.tuple [.agg [.sint .i64 (.sel (.rvar 0) (.lit 0) 4 0), .sint .i64 (.sel (.rvar 0) (.lit 0) 4 1), .sint .i64 (.sel (.rvar 0) (.lit 0) 4 2), .sint .i64 (.sel (.rvar 1) (.lit 0) 4 3)], .bool true]) ⟨0, .nil⟩), ([(.cmp .lss (.sel (.rvar 0) (.lit 0) 4 2) (.sel (.rvar 0) (.lit 0) 4 0), true), (.cmp .lss (.sel (.rvar 1) (.lit 0) 4 3) (.sel (.rvar 0) (.lit 0) 4 3), false), (.cmp .lss (.sel (.rvar 1) (.lit 0) 4 2) (.sel (.rvar 0) (.lit 0) 4 2), false), (.cmp .lss (.sel (.rvar 0) (.lit 0) 4 1) (.sel (.rvar 1) (.lit 0) 4 1), false), (.cmp .lss (.sel (.rvar 0) (.lit 0) 4 0) (.sel (.rvar 1) (.lit 0) 4 0), false), (.cmp .eql (.app 20 (.acons (.rcons (.sel (.rvar 1) (.lit 0) 4 0) (.rcons (.sel (.rvar 1) (.lit 0) 4 1) (.rcons (.sel (.rvar 1) (.lit 0) 4 2) (.rcons (.sel (.rvar 1) (.lit 0) 4 3) .rnil)))) .anil)) (.lit 0), false), (.cmp .eql (.app 20 (.acons (.rcons (.sel (.rvar 0) (.lit 0) 4 0) (.rcons (.sel (.rvar 0) (.lit 0) 4 1) (.rcons (.sel (.rvar 0) (.lit 0) 4 2) (.rcons (.sel (.rvar 0) (.lit 0) 4 3) .rnil)))) .anil)) (.lit 0), false)], .ret (.tuple [.agg [.int .i64 0, .int .i64 0, .int .i64 0, .int .i64 0], .bool false]) ⟨0, .nil⟩), ([(.cmp .lss (.sel (.rvar 0) (.lit 0) 4 3) (.sel (.rvar 0) (.lit 0) 4 1), true), (.cmp .lss (.sel (.rvar 0) (.lit 0) 4 2) (.sel (.rvar 0) (.lit 0) 4 0), false), (.cmp .lss (.sel (.rvar 1) (.lit 0) 4 3) (.sel (.rvar 0) (.lit 0) 4 3), false), (.cmp .lss (.sel (.rvar 1) (.lit 0) 4 2) (.sel (.rvar 0) (.lit 0) 4 2), false), (.cmp .lss (.sel (.rvar 0) (.lit 0) 4 1) (.sel (.rvar 1) (.lit 0) 4 1), false), (.cmp .lss (.sel (.rvar 0) (.lit 0) 4 0) (.sel (.rvar 1) (.lit 0) 4 0), false), (.cmp .eql (.app 20 (.acons (.rcons (.sel (.rvar 1) (.lit 0) 4 0) (.rcons (.sel (.rvar 1) (.lit 0) 4 1) (.rcons (.sel (.rvar 1) (.lit 0) 4 2) (.rcons (.sel (.rvar 1) (.lit 0) 4 3) .rnil)))) .anil)) (.lit 0), false), (.cmp .eql (.app 20 (.acons (.rcons (.sel (.rvar 0) (.lit 0) 4 0) (.rcons (.sel (.rvar 0) (.lit 0) 4 1) (.rcons (.sel (.rvar 0) (.lit 0) 4 2) (.rcons (.sel (.rvar 0) (.lit 0) 4 3) .rnil)))) .anil)) (.lit 0), false)], .ret (.tuple [.agg [.int .i64 0, .int .i64 0, .int .i64 0, .int .i64 0], .bool false]) ⟨0, .nil⟩), ([(.cmp .lss (.sel (.rvar 0) (.lit 0) 4 3) (.sel (.rvar 0) (.lit 0) 4 1), false), (.cmp .lss (.sel (.rvar 0) (.lit 0) 4 2) (.sel (.rvar 0) (.lit 0) 4 0), false), (.cmp .lss (.sel (.rvar 1) (.lit 0) 4 3) (.sel (.rvar 0) (.lit 0) 4 3), false), (.cmp .lss (.sel (.rvar 1) (.lit 0) 4 2) (.sel (.rvar 0) (.lit 0) 4 2), false), (.cmp .lss (.sel (.rvar 0) (.lit 0) 4 1) (.sel (.rvar 1) (.lit 0) 4 1), false), (.cmp .lss (.sel (.rvar 0) (.lit 0) 4 0) (.sel (.rvar 1) (.lit 0) 4 0), false), (.cmp .eql (.app 20 (.acons (.rcons (.sel (.rvar 1) (.lit 0) 4 0) (.rcons (.sel (.rvar 1) (.lit 0) 4 1) (.rcons (.sel (.rvar 1) (.lit 0) 4 2) (.rcons (.sel (.rvar 1) (.lit 0) 4 3) .rnil)))) .anil)) (.lit 0), false), (.cmp .eql (.app 20 (.acons (.rcons (.sel (.rvar 0) (.lit 0) 4 0) (.rcons (.sel (.rvar 0) (.lit 0) 4 1) (.rcons (.sel (.rvar 0) (.lit 0) 4 2) (.rcons (.sel (.rvar 0) (.lit 0) 4 3) .rnil)))) .anil)) (.lit 0), false)], .ret (.tuple [.agg [.sint .i64 (.sel (.rvar 0) (.lit 0) 4 0), .sint .i64 (.sel (.rvar 0) (.lit 0) 4 1), .sint .i64 (.sel (.rvar 0) (.lit 0) 4 2), .sint .i64 (.sel (.rvar 0) (.lit 0) 4 3)], .bool true]) ⟨0, .nil⟩)] := by kernel_rfl

theorem within_entry : entryK Try.prog [] 50 200 pcWithin.f [] 3 (argSVs 0 pcWithin.aks) 30 [] = some [([(.cmp .lss (.var 1) (.lit 1), true)], .ret (.int .i64 3) ⟨0, .nil⟩), ([(.cmp .lss (.lit 1024) (.var 1), true), (.cmp .lss (.var 1) (.lit 1), false)], .ret (.int .i64 3) ⟨0, .nil⟩), ([(.cmp .lss (.var 2) (.lit 1), true), (.cmp .lss (.lit 1024) (.var 1), false), (.cmp .lss (.var 1) (.lit 1), false)], .ret (.int .i64 3) ⟨0, .nil⟩), ([(.cmp .lss (.lit 1024) (.var 2), true), (.cmp .lss (.var 2) (.lit 1), false), (.cmp .lss (.lit 1024) (.var 1), false), (.cmp .lss (.var 1) (.lit 1), false)], .ret (.int .i64 3) ⟨0, .nil⟩), ([(.cmp .lss (.sel (.rvar 0) (.lit 0) 4 0) (.lit 0), true), (.cmp .lss (.lit 1024) (.var 2), false), (.cmp .lss (.var 2) (.lit 1), false), (.cmp .lss (.lit 1024) (.var 1), false), (.cmp .lss (.var 1) (.lit 1), false)], .ret (.int .i64 4) ⟨0, .nil⟩), ([(.cmp .lss (.sel (.rvar 0) (.lit 0) 4 2) (.lit 0), true), (.cmp .lss (.sel (.rvar 0) (.lit 0) 4 0) (.var 1), true), (.cmp .lss (.sel (.rvar 0) (.lit 0) 4 0) (.lit 0), false), (.cmp .lss (.lit 1024) (.var 2), false), (.cmp .lss (.var 2) (.lit 1), false), (.cmp .lss (.lit 1024) (.var 1), false), (.cmp .lss (.var 1) (.lit 1), false)], .ret (.int .i64 4) ⟨0, .nil⟩), ([(.cmp .lss (.sel (.rvar 0) (.lit 0) 4 1) (.lit 0), true), (.cmp .lss (.sel (.rvar 0) (.lit 0) 4 2) (.var 1), true), (.cmp .lss (.sel (.rvar 0) (.lit 0) 4 2) (.lit 0), false), (.cmp .lss (.sel (.rvar 0) (.lit 0) 4 0) (.var 1), true), (.cmp .lss (.sel (.rvar 0) (.lit 0) 4 0) (.lit 0), false), (.cmp .lss (.lit 1024) (.var 2), false), (.cmp .lss (.var 2) (.lit 1), false), (.cmp .lss (.lit 1024) (.var 1), false), (.cmp .lss (.var 1) (.lit 1), false)], .ret (.int .i64 4) ⟨0, .nil⟩), ([(.cmp .lss (.sel (.rvar 0) (.lit 0) 4 3) (.lit 0), true), (.cmp .lss (.sel (.rvar 0) (.lit 0) 4 1) (.var 2), true), (.cmp .lss (.sel (.rvar 0) (.lit 0) 4 1) (.lit 0), false), (.cmp .lss (.sel (.rvar 0) (.lit 0) 4 2) (.var 1), true), (.cmp .lss (.sel (.rvar 0) (.lit 0) 4 2) (.lit 0), false), (.cmp .lss (.sel (.rvar 0) (.lit 0) 4 0) (.var 1), true), (.cmp .lss (.sel (.rvar 0) (.lit 0) 4 0) (.lit 0), false), (.cmp .lss (.lit 1024) (.var 2), false), (.cmp .lss (.var 2) (.lit 1), false), (.cmp .lss (.lit 1024) (.var 1), false), (.cmp .lss (.var 1) (.lit 1), false)], .ret (.int .i64 4) ⟨0, .nil⟩), ([(.cmp .lss (.sel (.rvar 0) (.lit 0) 4 2) (.sel (.rvar 0) (.lit 0) 4 0), true), (.cmp .lss (.sel (.rvar 0) (.lit 0) 4 3) (.var 2), true), (.cmp .lss (.sel (.rvar 0) (.lit 0) 4 3) (.lit 0), false), (.cmp .lss (.sel (.rvar 0) (.lit 0) 4 1) (.var 2), true), (.cmp .lss (.sel (.rvar 0) (.lit 0) 4 1) (.lit 0), false), (.cmp .lss (.sel (.rvar 0) (.lit 0) 4 2) (.var 1), true), (.cmp .lss (.sel (.rvar 0) (.lit 0) 4 2) (.lit 0), false), (.cmp .lss (.sel (.rvar 0) (.lit 0) 4 0) (.var 1), true), (.cmp .lss (.sel (.rvar 0) (.lit 0) 4 0) (.lit 0), false), (.cmp .lss (.lit 1024) (.var 2), false), (.cmp .lss (.var 2) (.lit 1), false), (.cmp .lss (.lit 1024) (.var 1), false), (.cmp .lss (.var 1) (.lit 1), false)], .ret (.int .i64 5) ⟨0, .nil⟩), ([(.cmp .lss (.sel (.rvar 0) (.lit 0) 4 3) (.sel (.rvar 0) (.lit 0) 4 1), true), (.cmp .lss (.sel (.rvar 0) (.lit 0) 4 2) (.sel (.rvar 0) (.lit 0) 4 0), false), (.cmp .lss (.sel (.rvar 0) (.lit 0) 4 3) (.var 2), true), (.cmp .lss (.sel (.rvar 0) (.lit 0) 4 3) (.lit 0), false), (.cmp .lss (.sel (.rvar 0) (.lit 0) 4 1) (.var 2), true), (.cmp .lss (.sel (.rvar 0) (.lit 0) 4 1) (.lit 0), false), (.cmp .lss (.sel (.rvar 0) (.lit 0) 4 2) (.var 1), true), (.cmp .lss (.sel (.rvar 0) (.lit 0) 4 2) (.lit 0), false), (.cmp .lss (.sel (.rvar 0) (.lit 0) 4 0) (.var 1), true), (.cmp .lss (.sel (.rvar 0) (.lit 0) 4 0) (.lit 0), false), (.cmp .lss (.lit 1024) (.var 2), false), (.cmp .lss (.var 2) (.lit 1), false), (.cmp .lss (.lit 1024) (.var 1), false), (.cmp .lss (.var 1) (.lit 1), false)], .ret (.int .i64 5) ⟨0, .nil⟩), ([(.cmp .lss (.sel (.rvar 0) (.lit 0) 4 3) (.sel (.rvar 0) (.lit 0) 4 1), false), (.cmp .lss (.sel (.rvar 0) (.lit 0) 4 2) (.sel (.rvar 0) (.lit 0) 4 0), false), (.cmp .lss (.sel (.rvar 0) (.lit 0) 4 3) (.var 2), true), (.cmp .lss (.sel (.rvar 0) (.lit 0) 4 3) (.lit 0), false), (.cmp .lss (.sel (.rvar 0) (.lit 0) 4 1) (.var 2), true), (.cmp .lss (.sel (.rvar 0) (.lit 0) 4 1) (.lit 0), false), (.cmp .lss (.sel (.rvar 0) (.lit 0) 4 2) (.var 1), true), (.cmp .lss (.sel (.rvar 0) (.lit 0) 4 2) (.lit 0), false), (.cmp .lss (.sel (.rvar 0) (.lit 0) 4 0) (.var 1), true), (.cmp .lss (.sel (.rvar 0) (.lit 0) 4 0) (.lit 0), false), (.cmp .lss (.lit 1024) (.var 2), false), (.cmp .lss (.var 2) (.lit 1), false), (.cmp .lss (.lit 1024) (.var 1), false), (.cmp .lss (.var 1) (.lit 1), false)], .ret (.int .i64 0) ⟨0, .nil⟩), ([(.cmp .lss (.sel (.rvar 0) (.lit 0) 4 3) (.var 2), false), (.cmp .lss (.sel (.rvar 0) (.lit 0) 4 3) (.lit 0), false), (.cmp .lss (.sel (.rvar 0) (.lit 0) 4 1) (.var 2), true), (.cmp .lss (.sel (.rvar 0) (.lit 0) 4 1) (.lit 0), false), (.cmp .lss (.sel (.rvar 0) (.lit 0) 4 2) (.var 1), true), (.cmp .lss (.sel (.rvar 0) (.lit 0) 4 2) (.lit 0), false), (.cmp .lss (.sel (.rvar 0) (.lit 0) 4 0) (.var 1), true), (.cmp .lss (.sel (.rvar 0) (.lit 0) 4 0) (.lit 0), false), (.cmp .lss (.lit 1024) (.var 2), false), (.cmp .lss (.var 2) (.lit 1), false), (.cmp .lss (.lit 1024) (.var 1), false), (.cmp .lss (.var 1) (.lit 1), false)], .ret (.int .i64 4) ⟨0, .nil⟩), ([(.cmp .lss (.sel (.rvar 0) (.lit 0) 4 1) (.var 2), false), (.cmp .lss (.sel (.rvar 0) (.lit 0) 4 1) (.lit 0), false), (.cmp .lss (.sel (.rvar 0) (.lit 0) 4 2) (.var 1), true), (.cmp .lss (.sel (.rvar 0) (.lit 0) 4 2) (.lit 0), false), (.cmp .lss (.sel (.rvar 0) (.lit 0) 4 0) (.var 1), true), (.cmp .lss (.sel (.rvar 0) (.lit 0) 4 0) (.lit 0), false), (.cmp .lss (.lit 1024) (.var 2), false), (.cmp .lss (.var 2) (.lit 1), false), (.cmp .lss (.lit 1024) (.var 1), false), (.cmp .lss (.var 1) (.lit 1), false)], .ret (.int .i64 4) ⟨0, .nil⟩), ([(.cmp .lss (.sel (.rvar 0) (.lit 0) 4 2) (.var 1), false), (.cmp .lss (.sel (.rvar 0) (.lit 0) 4 2) (.lit 0), false), (.cmp .lss (.sel (.rvar 0) (.lit 0) 4 0) (.var 1), true), (.cmp .lss (.sel (.rvar 0) (.lit 0) 4 0) (.lit 0), false), (.cmp .lss (.lit 1024) (.var 2), false), (.cmp .lss (.var 2) (.lit 1), false), (.cmp .lss (.lit 1024) (.var 1), false), (.cmp .lss (.var 1) (.lit 1), false)], .ret (.int .i64 4) ⟨0, .nil⟩), ([(.cmp .lss (.sel (.rvar 0) (.lit 0) 4 0) (.var 1), false), (.cmp .lss (.sel (.rvar 0) (.lit 0) 4 0) (.lit 0), false), (.cmp .lss (.lit 1024) (.var 2), false), (.cmp .lss (.var 2) (.lit 1), false), (.cmp .lss (.lit 1024) (.var 1), false), (.cmp .lss (.var 1) (.lit 1), false)], .ret (.int .i64 4) ⟨0, .nil⟩)] := by kernel_rfl

theorem piecesR_entry : entryK Try.prog [pcMeetR.ct] 50 200 94 cutsQ 1 (argSVs 0 pcPiecesR.aks) 30 [] = some [([], .cut 0 ⟨[(1, .lit 0)], [], [], [(0, 0), (1, 1)]⟩)] := by kernel_rfl

theorem piecesR_rounds : roundsK Try.prog [pcMeetR.ct] 50 200 94 cutsQ 1 30 cutsQ = some [[([(.cmp .lss (.var 1) (.lit 64), true)], .cut 1 ⟨[(1, .var 1), (2, .lit 0)], [], [], [(0, 0), (1, 1)]⟩), ([(.cmp .lss (.var 1) (.lit 64), false)], .ret (.slice 1 0 0 0) ⟨2, (.node (some ⟨116, 4, [.sint .i64 (.sel (.rvar 0) (.lit 0) 4 0), .sint .i64 (.sel (.rvar 0) (.lit 0) 4 1), .sint .i64 (.sel (.rvar 0) (.lit 0) 4 2), .sint .i64 (.sel (.rvar 0) (.lit 0) 4 3)], .nil, false, none⟩) (.node (some ⟨116, 0, [], .nil, false, none⟩) .nil .nil) .nil)⟩)], [([(.cmp .eql (.app 23 (.acons (.rcons (.sel (.rvar 0) (.lit 0) 4 0) (.rcons (.sel (.rvar 0) (.lit 0) 4 1) (.rcons (.sel (.rvar 0) (.lit 0) 4 2) (.rcons (.sel (.rvar 0) (.lit 0) 4 3) .rnil)))) (.acons (.rcons (.bin .mul .i64 (.lit 16) (.var 2)) (.rcons (.bin .mul .i64 (.lit 16) (.var 1)) (.rcons (.bin .add .i64 (.bin .mul .i64 (.lit 16) (.var 2)) (.lit 15)) (.rcons (.bin .add .i64 (.bin .mul .i64 (.lit 16) (.var 1)) (.lit 15)) .rnil)))) .anil))) (.lit 0), true), (.cmp .lss (.var 2) (.lit 64), true)], .cut 1 ⟨[(1, .var 1), (2, .bin .add .i64 (.var 2) (.lit 1))], [], [], [(0, 0), (1, 1)]⟩), ([(.cmp .eql (.app 23 (.acons (.rcons (.sel (.rvar 0) (.lit 0) 4 0) (.rcons (.sel (.rvar 0) (.lit 0) 4 1) (.rcons (.sel (.rvar 0) (.lit 0) 4 2) (.rcons (.sel (.rvar 0) (.lit 0) 4 3) .rnil)))) (.acons (.rcons (.bin .mul .i64 (.lit 16) (.var 2)) (.rcons (.bin .mul .i64 (.lit 16) (.var 1)) (.rcons (.bin .add .i64 (.bin .mul .i64 (.lit 16) (.var 2)) (.lit 15)) (.rcons (.bin .add .i64 (.bin .mul .i64 (.lit 16) (.var 1)) (.lit 15)) .rnil)))) .anil))) (.lit 0), false), (.cmp .lss (.var 2) (.lit 64), true)], .cut 3 ⟨[(1, .var 1), (4, .lit 1), (2, .bin .add .i64 (.var 2) (.lit 1))], [(3, .rcons (.sel (.rapp 22 (.acons (.rcons (.sel (.rvar 0) (.lit 0) 4 0) (.rcons (.sel (.rvar 0) (.lit 0) 4 1) (.rcons (.sel (.rvar 0) (.lit 0) 4 2) (.rcons (.sel (.rvar 0) (.lit 0) 4 3) .rnil)))) (.acons (.rcons (.bin .mul .i64 (.lit 16) (.var 2)) (.rcons (.bin .mul .i64 (.lit 16) (.var 1)) (.rcons (.bin .add .i64 (.bin .mul .i64 (.lit 16) (.var 2)) (.lit 15)) (.rcons (.bin .add .i64 (.bin .mul .i64 (.lit 16) (.var 1)) (.lit 15)) .rnil)))) .anil))) (.lit 0) 4 0) (.rcons (.sel (.rapp 22 (.acons (.rcons (.sel (.rvar 0) (.lit 0) 4 0) (.rcons (.sel (.rvar 0) (.lit 0) 4 1) (.rcons (.sel (.rvar 0) (.lit 0) 4 2) (.rcons (.sel (.rvar 0) (.lit 0) 4 3) .rnil)))) (.acons (.rcons (.bin .mul .i64 (.lit 16) (.var 2)) (.rcons (.bin .mul .i64 (.lit 16) (.var 1)) (.rcons (.bin .add .i64 (.bin .mul .i64 (.lit 16) (.var 2)) (.lit 15)) (.rcons (.bin .add .i64 (.bin .mul .i64 (.lit 16) (.var 1)) (.lit 15)) .rnil)))) .anil))) (.lit 0) 4 1) (.rcons (.sel (.rapp 22 (.acons (.rcons (.sel (.rvar 0) (.lit 0) 4 0) (.rcons (.sel (.rvar 0) (.lit 0) 4 1) (.rcons (.sel (.rvar 0) (.lit 0) 4 2) (.rcons (.sel (.rvar 0) (.lit 0) 4 3) .rnil)))) (.acons (.rcons (.bin .mul .i64 (.lit 16) (.var 2)) (.rcons (.bin .mul .i64 (.lit 16) (.var 1)) (.rcons (.bin .add .i64 (.bin .mul .i64 (.lit 16) (.var 2)) (.lit 15)) (.rcons (.bin .add .i64 (.bin .mul .i64 (.lit 16) (.var 1)) (.lit 15)) .rnil)))) .anil))) (.lit 0) 4 2) (.rcons (.sel (.rapp 22 (.acons (.rcons (.sel (.rvar 0) (.lit 0) 4 0) (.rcons (.sel (.rvar 0) (.lit 0) 4 1) (.rcons (.sel (.rvar 0) (.lit 0) 4 2) (.rcons (.sel (.rvar 0) (.lit 0) 4 3) .rnil)))) (.acons (.rcons (.bin .mul .i64 (.lit 16) (.var 2)) (.rcons (.bin .mul .i64 (.lit 16) (.var 1)) (.rcons (.bin .add .i64 (.bin .mul .i64 (.lit 16) (.var 2)) (.lit 15)) (.rcons (.bin .add .i64 (.bin .mul .i64 (.lit 16) (.var 1)) (.lit 15)) .rnil)))) .anil))) (.lit 0) 4 3) .rnil))))], [], [(0, 0), (1, 4)]⟩), ([(.cmp .lss (.var 2) (.lit 64), false)], .cut 0 ⟨[(1, .bin .add .i64 (.var 1) (.lit 1))], [], [], [(0, 0), (1, 1)]⟩)], [([(.cmp .lss (.var 1) (.lit 64), true), (.not (.cmp .lss (.var 4) (.lit 0)), true), (.not (.cmp .lss (.lit 5000) (.var 4)), true)], .cut 3 ⟨[(1, .var 1), (4, .var 4), (2, .lit 0)], [(3, .rvar 3)], [], [(0, 0), (1, 1)]⟩), ([(.cmp .lss (.var 1) (.lit 64), false), (.not (.cmp .lss (.var 4) (.lit 0)), true), (.not (.cmp .lss (.lit 5000) (.var 4)), true)], .ret (.rsl (.own 1) (.lit 0) (.var 4) 4) ⟨2, (.node (some ⟨116, 4, [.sint .i64 (.sel (.rvar 0) (.lit 0) 4 0), .sint .i64 (.sel (.rvar 0) (.lit 0) 4 1), .sint .i64 (.sel (.rvar 0) (.lit 0) 4 2), .sint .i64 (.sel (.rvar 0) (.lit 0) 4 3)], .nil, false, none⟩) (.node (some ⟨116, 0, [], .nil, true, (some (.rvar 3, (.var 4, [.i64, .i64, .i64, .i64])))⟩) .nil .nil) .nil)⟩)], [([(.cmp .eql (.app 23 (.acons (.rcons (.sel (.rvar 0) (.lit 0) 4 0) (.rcons (.sel (.rvar 0) (.lit 0) 4 1) (.rcons (.sel (.rvar 0) (.lit 0) 4 2) (.rcons (.sel (.rvar 0) (.lit 0) 4 3) .rnil)))) (.acons (.rcons (.bin .mul .i64 (.lit 16) (.var 2)) (.rcons (.bin .mul .i64 (.lit 16) (.var 1)) (.rcons (.bin .add .i64 (.bin .mul .i64 (.lit 16) (.var 2)) (.lit 15)) (.rcons (.bin .add .i64 (.bin .mul .i64 (.lit 16) (.var 1)) (.lit 15)) .rnil)))) .anil))) (.lit 0), true), (.cmp .lss (.var 2) (.lit 64), true), (.not (.cmp .lss (.var 4) (.lit 0)), true), (.not (.cmp .lss (.lit 5000) (.var 4)), true)], .cut 3 ⟨[(1, .var 1), (4, .var 4), (2, .bin .add .i64 (.var 2) (.lit 1))], [(3, .rvar 3)], [], [(0, 0), (1, 1)]⟩), ([(.cmp .eql (.app 23 (.acons (.rcons (.sel (.rvar 0) (.lit 0) 4 0) (.rcons (.sel (.rvar 0) (.lit 0) 4 1) (.rcons (.sel (.rvar 0) (.lit 0) 4 2) (.rcons (.sel (.rvar 0) (.lit 0) 4 3) .rnil)))) (.acons (.rcons (.bin .mul .i64 (.lit 16) (.var 2)) (.rcons (.bin .mul .i64 (.lit 16) (.var 1)) (.rcons (.bin .add .i64 (.bin .mul .i64 (.lit 16) (.var 2)) (.lit 15)) (.rcons (.bin .add .i64 (.bin .mul .i64 (.lit 16) (.var 1)) (.lit 15)) .rnil)))) .anil))) (.lit 0), false), (.cmp .lss (.var 2) (.lit 64), true), (.not (.cmp .lss (.var 4) (.lit 0)), true), (.not (.cmp .lss (.lit 5000) (.var 4)), true)], .cut 3 ⟨[(1, .var 1), (4, .plus (.var 4) (.lit 1)), (2, .bin .add .i64 (.var 2) (.lit 1))], [(3, .cat (.rvar 3) (.rcons (.sel (.rapp 22 (.acons (.rcons (.sel (.rvar 0) (.lit 0) 4 0) (.rcons (.sel (.rvar 0) (.lit 0) 4 1) (.rcons (.sel (.rvar 0) (.lit 0) 4 2) (.rcons (.sel (.rvar 0) (.lit 0) 4 3) .rnil)))) (.acons (.rcons (.bin .mul .i64 (.lit 16) (.var 2)) (.rcons (.bin .mul .i64 (.lit 16) (.var 1)) (.rcons (.bin .add .i64 (.bin .mul .i64 (.lit 16) (.var 2)) (.lit 15)) (.rcons (.bin .add .i64 (.bin .mul .i64 (.lit 16) (.var 1)) (.lit 15)) .rnil)))) .anil))) (.lit 0) 4 0) (.rcons (.sel (.rapp 22 (.acons (.rcons (.sel (.rvar 0) (.lit 0) 4 0) (.rcons (.sel (.rvar 0) (.lit 0) 4 1) (.rcons (.sel (.rvar 0) (.lit 0) 4 2) (.rcons (.sel (.rvar 0) (.lit 0) 4 3) .rnil)))) (.acons (.rcons (.bin .mul .i64 (.lit 16) (.var 2)) (.rcons (.bin .mul .i64 (.lit 16) (.var 1)) (.rcons (.bin .add .i64 (.bin .mul .i64 (.lit 16) (.var 2)) (.lit 15)) (.rcons (.bin .add .i64 (.bin .mul .i64 (.lit 16) (.var 1)) (.lit 15)) .rnil)))) .anil))) (.lit 0) 4 1) (.rcons (.sel (.rapp 22 (.acons (.rcons (.sel (.rvar 0) (.lit 0) 4 0) (.rcons (.sel (.rvar 0) (.lit 0) 4 1) (.rcons (.sel (.rvar 0) (.lit 0) 4 2) (.rcons (.sel (.rvar 0) (.lit 0) 4 3) .rnil)))) (.acons (.rcons (.bin .mul .i64 (.lit 16) (.var 2)) (.rcons (.bin .mul .i64 (.lit 16) (.var 1)) (.rcons (.bin .add .i64 (.bin .mul .i64 (.lit 16) (.var 2)) (.lit 15)) (.rcons (.bin .add .i64 (.bin .mul .i64 (.lit 16) (.var 1)) (.lit 15)) .rnil)))) .anil))) (.lit 0) 4 2) (.rcons (.sel (.rapp 22 (.acons (.rcons (.sel (.rvar 0) (.lit 0) 4 0) (.rcons (.sel (.rvar 0) (.lit 0) 4 1) (.rcons (.sel (.rvar 0) (.lit 0) 4 2) (.rcons (.sel (.rvar 0) (.lit 0) 4 3) .rnil)))) (.acons (.rcons (.bin .mul .i64 (.lit 16) (.var 2)) (.rcons (.bin .mul .i64 (.lit 16) (.var 1)) (.rcons (.bin .add .i64 (.bin .mul .i64 (.lit 16) (.var 2)) (.lit 15)) (.rcons (.bin .add .i64 (.bin .mul .i64 (.lit 16) (.var 1)) (.lit 15)) .rnil)))) .anil))) (.lit 0) 4 3) .rnil)))))], [], [(0, 0), (1, 4)]⟩), ([(.cmp .lss (.var 2) (.lit 64), false), (.not (.cmp .lss (.var 4) (.lit 0)), true), (.not (.cmp .lss (.lit 5000) (.var 4)), true)], .cut 2 ⟨[(1, .bin .add .i64 (.var 1) (.lit 1)), (4, .var 4)], [(3, .rvar 3)], [], [(0, 0), (1, 1)]⟩)]] := by kernel_rfl

theorem len4 {l : List Int} (h : l.length = 4) : ∃ a b c d, l = [a, b, c, d] := by
  match l, h with
  | [a, b, c, d], _ => exact ⟨a, b, c, d, rfl⟩

theorem len2 {l : List Int} (h : l.length = 2) : ∃ a b, l = [a, b] := by
  match l, h with
  | [a, b], _ => exact ⟨a, b, rfl⟩

theorem sel4 (a b c d : Int) : selL [a, b, c, d] 0 4 0 = a ∧ selL [a, b, c, d] 0 4 1 = b ∧ selL [a, b, c, d] 0 4 2 = c ∧ selL [a, b, c, d] 0 4 3 = d := by simp [selL]

theorem sel2 (a b : Int) : selL [a, b] 0 2 0 = a ∧ selL [a, b] 0 2 1 = b := by simp [selL]

theorem rightR_ok : PcOk Try.prog FN pcRightR := by
  refine pc_floyd (cs := []) mix pcRightR (fun _ _ => knOk_nil) (by decide) (by rfl) rightR_entry (fun _ _ _ => False) (fun _ _ _ => (0, 0)) (fun _ _ _ h => h.elim) ?_
  intro ls e0 hf hargs hrng hpre
  simp only [pcRightR, ArgsE, ArgE] at hargs
  obtain ⟨a, _, rfl, ⟨ha, hl⟩, rfl⟩ := hargs
  obtain ⟨x0, y0, x1, y1, rfl⟩ := len4 hl
  refine ⟨fun _ _ => ⟨trivial, trivial⟩, ?_⟩
  simp only [allLeaves, AsOk_cons, AsOk_nil, BE.eval, cmpI, IE.eval, IE.reval, IE.aeval, ha, hf, sel4, and_true, decide_eq_true_eq, decide_eq_false_iff_not, StepG, pcRightR]
  repeat' apply And.intro
  all_goals intro hA
  all_goals refine ⟨[_], rfl, ?_, rfl⟩
  all_goals simp only [FN, g20, g22, g23, g25, g31, g50, g51, g52, g53, encB_head, BE.eval, cmpI, IE.eval, IE.reval, ha, sel4]
  all_goals first | (refine (decide_eq_false ?_).symm; unfold rightP; omega) | (refine (decide_eq_true ?_).symm; unfold rightP; omega) | (refine decide_eq_decide.2 ?_; unfold rightP; omega) | (rw [← decide_not]; refine decide_eq_decide.2 ?_; unfold rightP; omega)

theorem knRightR : ∀ env : Env, env.fn = FN → KnOk Try.prog env [pcRightR.ct] := fun env h => knOk_cons knOk_nil (Pc.ct_ok h rightR_ok)

theorem ite_max (a b : Int) : (if a < b then b else a) = max a b := by omega

theorem ite_min (a b : Int) : (if b < a then b else a) = min a b := by omega

theorem meetR_ok : PcOk Try.prog FN pcMeetR := by
  refine pc_floyd (cs := []) mix pcMeetR knRightR (by decide) (by rfl) meetR_entry (fun _ _ _ => False) (fun _ _ _ => (0, 0)) (fun _ _ _ h => h.elim) ?_
  intro ls e0 hf hargs hrng hpre
  simp only [pcMeetR, ArgsE, ArgE] at hargs
  obtain ⟨a, _, rfl, ⟨ha, hl⟩, b, _, rfl, ⟨hb, hlb⟩, rfl⟩ := hargs
  obtain ⟨a0, b0, a1, b1, rfl⟩ := len4 hl
  obtain ⟨c0, d0, c1, d1, rfl⟩ := len4 hlb
  refine ⟨fun _ _ => ⟨trivial, trivial⟩, ?_⟩
  simp only [allLeaves, AsOk_cons, AsOk_nil, BE.eval, cmpI, IE.eval, IE.reval, IE.aeval, ha, hb, hf, sel4, sel2, and_true, decide_eq_true_eq, decide_eq_false_iff_not, StepG, pcMeetR, FN, g20, g22, g23, g25, g31, g50, g51, g52, g53, encB_zero, binI, ite_max, ite_min, Classical.not_not]
  repeat' apply And.intro
  all_goals intro hA
  all_goals refine ⟨[_, _], rfl, ⟨_, rfl, rfl, ?_⟩, ?_, rfl⟩
  all_goals simp only [FN, g20, g22, g23, g25, g31, g50, g51, g52, g53, encB_head, BE.eval, cmpI, IE.eval, IE.reval, ha, hb, sel4, binI, ite_max, ite_min]
  all_goals unfold rightP at hA
  all_goals first
    | (refine (decide_eq_false ?_).symm; unfold meetsP rightP; omega)
    | (refine (decide_eq_true ?_).symm; unfold meetsP rightP; omega)
    | (rw [meetL, if_neg (by unfold meetsP rightP; omega)])
    | (rw [meetL, if_pos (by unfold meetsP rightP; omega)]; try (simp only [List.cons.injEq, and_true]; refine ⟨?_, ?_, ?_, ?_⟩ <;> first | omega | (split <;> omega)))

theorem within_ok : PcOk Try.prog FN pcWithin := by
  refine pc_floyd (cs := []) mix pcWithin (fun _ _ => knOk_nil) (by decide) (by rfl) within_entry (fun _ _ _ => False) (fun _ _ _ => (0, 0)) (fun _ _ _ h => h.elim) ?_
  intro ls e0 hf hargs hrng hpre
  simp only [pcWithin, ArgsE, ArgE] at hargs
  obtain ⟨a, _, rfl, ⟨ha, hl⟩, b, _, rfl, hb, c, _, rfl, hc, rfl⟩ := hargs
  obtain ⟨x0, y0, x1, y1, rfl⟩ := len4 hl
  obtain ⟨w, hw⟩ : ∃ w, w = vInt (e0.val (0 + 1)) := ⟨_, rfl⟩
  obtain ⟨h, hh⟩ : ∃ h, h = vInt (e0.val (0 + 1 + 1)) := ⟨_, rfl⟩
  rw [← hw] at hb
  rw [← hh] at hc
  subst hb; subst hc
  have hw' : vInt (e0.val 1) = w := hw.symm
  have hh' : vInt (e0.val 2) = h := hh.symm
  refine ⟨fun _ _ => ⟨trivial, trivial⟩, ?_⟩
  simp only [allLeaves, AsOk_cons, AsOk_nil, BE.eval, cmpI, IE.eval, IE.reval, IE.aeval, ha, hw', hh', hf, sel4, and_true, decide_eq_true_eq, decide_eq_false_iff_not, StepG, pcWithin]
  repeat' apply And.intro
  all_goals intro hA
  all_goals refine ⟨[_], rfl, ⟨_, rfl, ?_⟩, rfl⟩
  all_goals simp only [FN, g20, g22, g23, g25, g31, g50, g51, g52, g53, IE.eval, List.headD_cons, withinC]
  all_goals first
    | (rw [if_neg (by omega)])
    | (rw [if_pos (by omega), if_neg (by omega)])
    | (rw [if_pos (by omega), if_pos (by omega), if_pos (by omega)])
    | (rw [if_pos (by omega), if_pos (by omega), if_neg (by omega)])

theorem knMeetRP : ∀ env : Env, env.fn = FN → KnOk Try.prog env [pcMeetR.ct] := fun env h => knOk_cons knOk_nil (Pc.ct_ok h meetR_ok)

theorem FNp_22 (a b c d e f g h : Int) : FN 22 [[a, b, c, d], [e, f, g, h]] = meetL a b c d e f g h := rfl

theorem FNp_23 (a b c d e f g h : Int) : FN 23 [[a, b, c, d], [e, f, g, h]] = encB (decide (meetsP a b c d e f g h)) := rfl

theorem FNp_31 (a b c d : Int) : FN 31 [[a, b, c, d]] = piecesL a b c d := rfl

def doneP (x0 y0 x1 y1 : Int) (J I : Nat) : List Int := allT x0 y0 x1 y1 J ++ rowT x0 y0 x1 y1 J I

theorem doneP_len (x0 y0 x1 y1 : Int) (J I : Nat) (hJ : J ≤ 64) (hI : I ≤ 64) : (doneP x0 y0 x1 y1 J I).length ≤ 17000 := by
  have h1 := allT_len x0 y0 x1 y1 J
  have h2 := rowT_len x0 y0 x1 y1 J I
  unfold doneP; rw [List.length_append]; omega

def comQ (ls : List (List Int)) (env : Env) (x0 y0 x1 y1 : Int) (J : Nat) : Prop := ls = [[x0, y0, x1, y1]] ∧ (env.row 0 = [x0, y0, x1, y1] ∧ vInt (env.val 1) = J) ∧ J ≤ 64

def invQ (ls : List (List Int)) (c : Nat) (env : Env) : Prop := ∃ x0 y0 x1 y1 J, comQ ls env x0 y0 x1 y1 J ∧
  ((c = 0 ∧ allT x0 y0 x1 y1 J = []) ∨
   (c = 1 ∧ J < 64 ∧ ∃ I : Nat, vInt (env.val 2) = I ∧ I ≤ 64 ∧ doneP x0 y0 x1 y1 J I = []) ∨
   (c = 2 ∧ env.row 3 = allT x0 y0 x1 y1 J ∧ ∃ n : Int, vInt (env.val 4) = n ∧ 4 * n = (allT x0 y0 x1 y1 J).length) ∨
   (c = 3 ∧ J < 64 ∧ ∃ I : Nat, vInt (env.val 2) = I ∧ I ≤ 64 ∧ env.row 3 = doneP x0 y0 x1 y1 J I ∧ ∃ n : Int, vInt (env.val 4) = n ∧ 4 * n = (doneP x0 y0 x1 y1 J I).length))

theorem doneP_zero (x0 y0 x1 y1 : Int) (J : Nat) : doneP x0 y0 x1 y1 J 0 = allT x0 y0 x1 y1 J := by unfold doneP; rw [rowT, List.append_nil]

theorem doneP_all (x0 y0 x1 y1 : Int) (J I : Nat) (h : I = 64) : doneP x0 y0 x1 y1 J I = allT x0 y0 x1 y1 (J + 1) := by subst h; unfold doneP; rw [allT]

theorem doneP_no {x0 y0 x1 y1 : Int} {J I : Nat} (h : ¬ meetsP x0 y0 x1 y1 (16 * I) (16 * J) (16 * I + 15) (16 * J + 15)) : doneP x0 y0 x1 y1 J (I + 1) = doneP x0 y0 x1 y1 J I := by
  unfold doneP; rw [rowT, tile_no h, List.append_nil]

theorem doneP_is {x0 y0 x1 y1 : Int} {J I : Nat} (h : meetsP x0 y0 x1 y1 (16 * I) (16 * J) (16 * I + 15) (16 * J + 15)) : doneP x0 y0 x1 y1 J (I + 1) = doneP x0 y0 x1 y1 J I ++ meetL x0 y0 x1 y1 (16 * I) (16 * J) (16 * I + 15) (16 * J + 15) := by
  unfold doneP; rw [rowT, tileL, if_pos h, List.append_assoc]

theorem meetL_four (a0 b0 a1 b1 c0 d0 c1 d1 : Int) : [selL (meetL a0 b0 a1 b1 c0 d0 c1 d1) 0 4 0, selL (meetL a0 b0 a1 b1 c0 d0 c1 d1) 0 4 1, selL (meetL a0 b0 a1 b1 c0 d0 c1 d1) 0 4 2, selL (meetL a0 b0 a1 b1 c0 d0 c1 d1) 0 4 3] = meetL a0 b0 a1 b1 c0 d0 c1 d1 := by
  obtain ⟨p, q, r, s, h⟩ := len4 (meetL_len a0 b0 a1 b1 c0 d0 c1 d1)
  rw [h]; simp [selL]

theorem mul16 {n : Nat} (h : n ≤ 64) : binI .mul .i64 16 (n : Int) = 16 * n := wrap_i64 (by omega)
theorem add15 {n : Nat} (h : n ≤ 64) : binI .add .i64 (16 * (n : Int)) 15 = 16 * n + 15 := wrap_i64 (by omega)
theorem add1 {n : Nat} (h : n ≤ 64) : binI .add .i64 (n : Int) 1 = (n + 1 : Nat) := by simp only [binI]; rw [wrap_i64 (by omega)]; omega

theorem piecesR_ok : PcOk Try.prog FN pcPiecesR := by
  refine pc_floyd (cs := cutsQ) mix pcPiecesR knMeetRP (by decide) piecesR_rounds piecesR_entry invQ (fun ls i env => ((5000 - vInt (env.val 1)).toNat, if i % 2 = 0 then 5000 else (4000 - vInt (env.val 2)).toNat))
    (fun ls i env h => by obtain ⟨_, _, _, _, _, _, h⟩ := h; simp; omega) ?_
  intro ls e0 hf hargs hrng hpre
  simp only [pcPiecesR, ArgsE, ArgE] at hargs
  obtain ⟨a, _, rfl, ⟨ha, hl⟩, rfl⟩ := hargs
  obtain ⟨x0, y0, x1, y1, rfl⟩ := len4 hl
  refine ⟨fun env hfn => ⟨⟨fun _ => by simp only [AsOk_nil], fun _ => by simp only [AsOk_nil], ?_, ?_, trivial⟩, ⟨?_, ?_, ?_, ?_, trivial⟩⟩, ?_⟩
  · rintro ⟨a0, b0, a1, b1, J, hcom, h | h | ⟨_, h4, n, h5, h6⟩ | h⟩
    · omega
    · omega
    · have := allT_len a0 b0 a1 b1 J
      have hJ := hcom.2.2
      simp only [asP, nonneg, atmB, AsOk_cons, AsOk_nil, BE.eval, cmpI, IE.eval, h5]
      simp; omega
    · omega
  · rintro ⟨a0, b0, a1, b1, J, hcom, h | h | h | ⟨_, hy, I, h1, hI, h4, n, h5, h6⟩⟩
    · omega
    · omega
    · omega
    · have := doneP_len a0 b0 a1 b1 J I hcom.2.2 hI
      simp only [asP, nonneg, atmB, AsOk_cons, AsOk_nil, BE.eval, cmpI, IE.eval, h5]
      simp; omega
  · rintro ⟨a0, b0, a1, b1, J, ⟨hl, ⟨q0, q1⟩, k1⟩, ⟨_, hJ⟩ | h | h | h⟩
    · simp only [List.cons.injEq, and_true] at hl
      obtain ⟨rfl, rfl, rfl, rfl⟩ := hl
      simp only [allLeaves, AsOk_cons, AsOk_nil, BE.eval, cmpI, IE.eval, IE.reval, q0, q1, sel4, and_true, decide_eq_true_eq, decide_eq_false_iff_not]
      refine ⟨fun hA => stepG_cut ⟨x0, y0, x1, y1, J, ⟨rfl, ⟨?_, ?_⟩, k1⟩, .inr (.inl ⟨rfl, by omega, 0, ?_, by omega, ?_⟩)⟩ (Prod.lex_def.2 ?_), fun hA => ?_⟩
      rotate_right
      · obtain rfl : J = 64 := by omega
        refine ⟨[_], rfl, ⟨by decide, _, rfl, ?_, ?_⟩, rfl⟩
        · rw [subE_eval (by simp [IE.eval, IE.reval])]; simp [IE.reval, IE.eval, subL, pcPiecesR, FNp_31, piecesL, hJ]
        · refine ⟨by simp [IE.eval], fun B r cnt ks' h1 h2 => ?_⟩
          obtain rfl := Option.some.inj h1
          cases h2
          exact Int.le_refl _
      all_goals simp [upd, lk_cons, lk_nil, IE.eval, IE.reval, q0, q1, sel4, vInt_int, doneP_zero, hJ]
    · omega
    · omega
    · omega
  · rintro ⟨a0, b0, a1, b1, J, ⟨hl, ⟨q0, q1⟩, k1⟩, h | ⟨_, hy, I, q2, hI, q3⟩ | h | h⟩
    · omega
    · simp only [List.cons.injEq, and_true] at hl
      obtain ⟨rfl, rfl, rfl, rfl⟩ := hl
      simp only [allLeaves, AsOk_cons, AsOk_nil, BE.eval, cmpI, IE.eval, IE.reval, IE.aeval, hfn, q0, q1, q2, sel4, FNp_23, FNp_22, encB_zero, mul16 hI, mul16 k1, add15 hI, add15 k1, and_true, decide_eq_true_eq, decide_eq_false_iff_not, Classical.not_not]
      refine ⟨fun hA => ?_, fun hA => ?_, fun hA => ?_⟩
      · refine stepG_cut ⟨x0, y0, x1, y1, J, ⟨rfl, ⟨?_, ?_⟩, k1⟩, .inr (.inl ⟨rfl, by omega, I + 1, ?_, by omega, by rw [doneP_no hA.1]; exact q3⟩)⟩ (Prod.lex_def.2 ?_)
        all_goals simp [upd, lk_cons, lk_nil, IE.eval, IE.reval, q0, q1, q2, sel4, vInt_int, add1 hI]
        omega
      · have e := doneP_is hA.1
        rw [q3, List.nil_append] at e
        refine stepG_cut ⟨x0, y0, x1, y1, J, ⟨rfl, ⟨?_, ?_⟩, k1⟩, .inr (.inr (.inr ⟨rfl, by omega, I + 1, ?_, by omega, ?_, 1, ?_, by rw [e, meetL_len]; rfl⟩))⟩ (Prod.lex_def.2 ?_)
        all_goals simp [upd, lk_cons, lk_nil, IE.eval, IE.reval, IE.aeval, hfn, q0, q1, q2, sel4, vInt_int, add1 hI, FNp_22, mul16 hI, mul16 k1, add15 hI, add15 k1, meetL_four, e]
        omega
      · have e := doneP_all x0 y0 x1 y1 J I (by omega)
        refine stepG_cut ⟨x0, y0, x1, y1, J + 1, ⟨rfl, ⟨?_, ?_⟩, by omega⟩, .inl ⟨rfl, by rw [← e]; exact q3⟩⟩ (Prod.lex_def.2 ?_)
        all_goals simp [upd, lk_cons, lk_nil, IE.eval, IE.reval, q0, q1, q2, sel4, vInt_int, add1 k1]
        omega
    · omega
    · omega
  · rintro ⟨a0, b0, a1, b1, J, ⟨hl, ⟨q0, q1⟩, k1⟩, h | h | ⟨_, q3, n, q4, q5⟩ | h⟩
    · omega
    · omega
    · simp only [List.cons.injEq, and_true] at hl
      obtain ⟨rfl, rfl, rfl, rfl⟩ := hl
      simp only [allLeaves, AsOk_cons, AsOk_nil, BE.eval, cmpI, IE.eval, IE.reval, q0, q1, q3, q4, sel4, and_true, decide_eq_true_eq, decide_eq_false_iff_not]
      refine ⟨fun hA => ?_, fun hA => ?_⟩
      · refine stepG_cut ⟨x0, y0, x1, y1, J, ⟨rfl, ⟨?_, ?_⟩, k1⟩, .inr (.inr (.inr ⟨rfl, by omega, 0, ?_, by omega, ?_, n, ?_, by rw [doneP_zero]; exact q5⟩))⟩ (Prod.lex_def.2 ?_)
        all_goals simp [upd, lk_cons, lk_nil, IE.eval, IE.reval, q0, q1, q3, q4, sel4, vInt_int, doneP_zero]
      · obtain rfl : J = 64 := by omega
        refine ⟨[_], rfl, ⟨by decide, _, rfl, ?_, ?_⟩, rfl⟩
        · rw [subE_eval (by simp only [IE.reval, IE.eval, q3, q4]; simp; omega)]; simp only [IE.reval, IE.eval, q3, q4, subL, pcPiecesR, FNp_31, piecesL]
          have : n.toNat * R4.length = (allT x0 y0 x1 y1 64).length := by simp; omega
          rw [this]; simp
        · refine ⟨by simp only [IE.eval, q4]; omega, fun B r cnt ks' h1 h2 => ?_⟩
          obtain rfl := Option.some.inj h1
          cases h2
          exact Int.le_refl _
    · omega
  · rintro ⟨a0, b0, a1, b1, J, ⟨hl, ⟨q0, q1⟩, k1⟩, h | h | h | ⟨_, hy, I, q2, hI, q3, n, q4, q5⟩⟩
    · omega
    · omega
    · omega
    · simp only [List.cons.injEq, and_true] at hl
      obtain ⟨rfl, rfl, rfl, rfl⟩ := hl
      simp only [allLeaves, AsOk_cons, AsOk_nil, BE.eval, cmpI, IE.eval, IE.reval, IE.aeval, hfn, q0, q1, q2, q3, q4, sel4, FNp_23, FNp_22, encB_zero, mul16 hI, mul16 k1, add15 hI, add15 k1, and_true, decide_eq_true_eq, decide_eq_false_iff_not, Classical.not_not]
      refine ⟨fun hA => ?_, fun hA => ?_, fun hA => ?_⟩
      · have e := doneP_no hA.1
        refine stepG_cut ⟨x0, y0, x1, y1, J, ⟨rfl, ⟨?_, ?_⟩, k1⟩, .inr (.inr (.inr ⟨rfl, by omega, I + 1, ?_, by omega, ?_, n, ?_, by rw [e]; exact q5⟩))⟩ (Prod.lex_def.2 ?_)
        all_goals simp [upd, lk_cons, lk_nil, IE.eval, IE.reval, q0, q1, q2, q3, q4, sel4, vInt_int, add1 hI, e]
        omega
      · have e := doneP_is hA.1
        refine stepG_cut ⟨x0, y0, x1, y1, J, ⟨rfl, ⟨?_, ?_⟩, k1⟩, .inr (.inr (.inr ⟨rfl, by omega, I + 1, ?_, by omega, ?_, n + 1, ?_, by rw [e, List.length_append, meetL_len]; omega⟩))⟩ (Prod.lex_def.2 ?_)
        all_goals simp [upd, lk_cons, lk_nil, IE.eval, IE.reval, IE.aeval, hfn, q0, q1, q2, q3, q4, sel4, vInt_int, add1 hI, FNp_22, mul16 hI, mul16 k1, add15 hI, add15 k1, meetL_four, e]
        omega
      · have e := doneP_all x0 y0 x1 y1 J I (by omega)
        refine stepG_cut ⟨x0, y0, x1, y1, J + 1, ⟨rfl, ⟨?_, ?_⟩, by omega⟩, .inr (.inr (.inl ⟨rfl, ?_, n, ?_, by rw [← e]; exact q5⟩))⟩ (Prod.lex_def.2 ?_)
        all_goals simp [upd, lk_cons, lk_nil, IE.eval, IE.reval, q0, q1, q2, q3, q4, sel4, vInt_int, add1 k1, e]
        omega
  · simp only [allLeaves, AsOk_cons, AsOk_nil, BE.eval, cmpI, IE.eval, IE.reval, IE.aeval, ha, hf, sel4, and_true, decide_eq_true_eq, decide_eq_false_iff_not]
    refine fun _ => stepG_cut0 ⟨x0, y0, x1, y1, 0, ⟨rfl, ⟨?_, ?_⟩, by omega⟩, .inl ⟨rfl, rfl⟩⟩
    all_goals simp [upd, lk_cons, lk_nil, IE.eval, IE.reval, ha, sel4, vInt_int]

end Go.Proofs.Ytkfejcffacbngaa
