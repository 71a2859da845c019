import Derived.Test.YtagahpfinaaemaaProg
import Derived.Test.YtagahpfinaaemaaKA

namespace Go.Proofs.Ytagahpfinaaemaa

open Go Go.Sym

set_option linter.unusedVariables false

abbrev R4 : List IntKind := [.i64, .i64, .i64, .i64]

abbrev C2 : List IntKind := [.i64, .i64]

abbrev II : List ArgK := [.int .i64, .int .i64]

def withinC (x0 y0 x1 y1 w h : Int) : Int :=
  if 1 ≤ w ∧ w ≤ 1024 ∧ 1 ≤ h ∧ h ≤ 1024 then (if 0 ≤ x0 ∧ x0 < w ∧ 0 ≤ x1 ∧ x1 < w ∧ 0 ≤ y0 ∧ y0 < h ∧ 0 ≤ y1 ∧ y1 < h then (if x1 < x0 ∨ y1 < y0 then 5 else 0) else 4) else 3

def levC (w h : Int) : Int := if szOk w h then 0 else 3

def levN (w h : Int) : Int := if szOk w h then ((lv 10 w h : Nat) : Int) else 0

def sizeC (w h k : Int) : Int := if szOk w h then (if 0 ≤ k ∧ k < ((lv 10 w h : Nat) : Int) then 0 else 11) else 3

def hasC (w h k x y : Int) : Int := if sizeC w h k = 0 then (if 0 ≤ x ∧ x < hvN k.toNat w ∧ 0 ≤ y ∧ y < hvN k.toNat h then 0 else 4) else sizeC w h k

def spanL (w h k x y : Int) : List Int :=
  if hasC w h k x y = 0 then [x * 2 ^ k.toNat, y * 2 ^ k.toNat, min w ((x + 1) * 2 ^ k.toNat) - 1, min h ((y + 1) * 2 ^ k.toNat) - 1] else [0, 0, 0, 0]

def tdN : Nat → Int → Int
  | 0, x => x
  | k + 1, x => Int.tdiv (tdN k x) 2

def rowK (A X Y : Int) : List Int := X :: Y :: (if X + 1 < A then [X + 1, Y] else [])

def kidsL (A B x y : Int) : List Int := rowK A (2 * x) (2 * y) ++ (if 2 * y + 1 < B then rowK A (2 * x) (2 * y + 1) else [])

def kidsC (w h k x y : Int) : Int := if szOk w h then (if k = 0 then 11 else hasC w h k x y) else 3

def kidsLL (w h k x y : Int) : List Int := if kidsC w h k x y = 0 then kidsL (hvN (k.toNat - 1) w) (hvN (k.toNat - 1) h) x y else []

def aboveC (w h k x y : Int) : Int := if sizeC w h k = 0 then hasC w h 0 x y else sizeC w h k

def aboveL (w h k x y : Int) : List Int := if aboveC w h k x y = 0 then [x / 2 ^ k.toNat, y / 2 ^ k.toNat] else [0, 0]

def mayC (w h k at' x y : Int) : Int := if szOk w h then (if 0 ≤ k ∧ k < ((lv 10 w h : Nat) : Int) then (if 0 ≤ x ∧ 0 ≤ y ∧ x < hvN at'.toNat w ∧ y < hvN at'.toNat h then 0 else 4) else 11) else 3

def mayP (w h k at' : Int) : Bool := decide (sizeC w h k = 0 → 0 ≤ at' ∧ at' < ((lv 10 w h : Nat) : Int))

def rightP (x0 y0 x1 y1 : Int) : Prop := 0 ≤ x0 ∧ x0 ≤ x1 ∧ x1 < 1024 ∧ 0 ≤ y0 ∧ y0 ≤ y1 ∧ y1 < 1024

instance (x0 y0 x1 y1 : Int) : Decidable (rightP x0 y0 x1 y1) := by unfold rightP; infer_instance

def meetsP (a0 b0 a1 b1 c0 d0 c1 d1 : Int) : Prop := rightP a0 b0 a1 b1 ∧ rightP c0 d0 c1 d1 ∧ max a0 c0 ≤ min a1 c1 ∧ max b0 d0 ≤ min b1 d1

instance (a0 b0 a1 b1 c0 d0 c1 d1 : Int) : Decidable (meetsP a0 b0 a1 b1 c0 d0 c1 d1) := by unfold meetsP; infer_instance

def meetL (a0 b0 a1 b1 c0 d0 c1 d1 : Int) : List Int := if meetsP a0 b0 a1 b1 c0 d0 c1 d1 then [max a0 c0, max b0 d0, min a1 c1, min b1 d1] else [0, 0, 0, 0]

def areaI (x0 y0 x1 y1 : Int) : Int := if rightP x0 y0 x1 y1 then (x1 + 1 - x0) * (y1 + 1 - y0) else 0

def g20 : List (List Int) → List Int
  | [[x0, y0, x1, y1], [w], [h]] => [withinC x0 y0 x1 y1 w h]
  | _ => []

def g21 : List (List Int) → List Int
  | [[w], [h]] => [levN w h]
  | _ => []

def g22 : List (List Int) → List Int
  | [[w], [h]] => [levC w h]
  | _ => []

def g23 : List (List Int) → List Int
  | [[w], [h], [k]] => [if sizeC w h k = 0 then hvN k.toNat w else 0]
  | _ => []

def g24 : List (List Int) → List Int
  | [[w], [h], [k]] => [if sizeC w h k = 0 then hvN k.toNat h else 0]
  | _ => []

def g25 : List (List Int) → List Int
  | [[w], [h], [k]] => [sizeC w h k]
  | _ => []

def g26 : List (List Int) → List Int
  | [[w], [h], [k], [x, y]] => [hasC w h k x y]
  | _ => []

def g27 : List (List Int) → List Int
  | [[w], [h], [k], [x, y]] => spanL w h k x y
  | _ => []

def g28 : List (List Int) → List Int
  | [[w], [h], [k], [x, y]] => [hasC w h k x y]
  | _ => []

def g29 : List (List Int) → List Int
  | [[k], [x, y]] => [tdN k.toNat x, tdN k.toNat y]
  | _ => []

def g30 : List (List Int) → List Int
  | [[w], [h], [k], [x, y]] => kidsLL w h k x y
  | _ => []

def g31 : List (List Int) → List Int
  | [[w], [h], [k], [x, y]] => [kidsC w h k x y]
  | _ => []

def g32 : List (List Int) → List Int
  | [[w], [h], [k], [x, y]] => aboveL w h k x y
  | _ => []

def g33 : List (List Int) → List Int
  | [[w], [h], [k], [x, y]] => [aboveC w h k x y]
  | _ => []

def g34 : List (List Int) → List Int
  | [[w], [h]] => if szOk w h then szL 10 w h else []
  | _ => []

def g35 : List (List Int) → List Int
  | [[w], [h], [k], [a], [x, y]] => [mayC w h k a x y]
  | _ => []

def g36 : List (List Int) → List Int
  | [[w], [h], [k], [a], [x, y]] => encB (mayP w h k a)
  | _ => []

def g37 : List (List Int) → List Int
  | [a, b] => encB (decide (a = b))
  | _ => []

def g38 : List (List Int) → List Int
  | [[w], [h], [k], [x, y]] => kidsLL w h k x y
  | _ => []

def g39 : List (List Int) → List Int
  | [[w], [h], [k], [x, y]] => encB (decide (kidsC w h k x y = 0))
  | _ => []

def g40 : List (List Int) → List Int
  | [[x0, y0, x1, y1], [x, y]] => encB (decide (withinC x0 y0 x1 y1 1024 1024 = 0 ∧ x0 ≤ x ∧ x ≤ x1 ∧ y0 ≤ y ∧ y ≤ y1))
  | _ => []

def g41 : List (List Int) → List Int
  | [[x0, y0, x1, y1]] => encB (decide (rightP x0 y0 x1 y1))
  | _ => []

def g42 : List (List Int) → List Int
  | [[a0, b0, a1, b1], [c0, d0, c1, d1]] => meetL a0 b0 a1 b1 c0 d0 c1 d1
  | _ => []

def g43 : List (List Int) → List Int
  | [[a0, b0, a1, b1], [c0, d0, c1, d1]] => encB (decide (meetsP a0 b0 a1 b1 c0 d0 c1 d1))
  | _ => []

def g44 : List (List Int) → List Int
  | [[x0, y0, x1, y1]] => [areaI x0 y0 x1 y1]
  | _ => []

def FN : Nat → List (List Int) → List Int
  | 20, l => g20 l
  | 21, l => g21 l
  | 22, l => g22 l
  | 23, l => g23 l
  | 24, l => g24 l
  | 25, l => g25 l
  | 26, l => g26 l
  | 27, l => g27 l
  | 28, l => g28 l
  | 29, l => g29 l
  | 30, l => g30 l
  | 31, l => g31 l
  | 32, l => g32 l
  | 33, l => g33 l
  | 34, l => g34 l
  | 35, l => g35 l
  | 36, l => g36 l
  | 37, l => g37 l
  | 38, l => g38 l
  | 39, l => g39 l
  | 40, l => g40 l
  | 41, l => g41 l
  | 42, l => g42 l
  | 43, l => g43 l
  | 44, l => g44 l
  | _, _ => []

theorem mix : Try.prog.follows .mixedOrders = true := by kernel_rfl

def pcWithin : Pc := ⟨14, [.agg R4, .int .i64, .int .i64], [.int .i64], 20, [], []⟩

def pcLevels : Pc := ⟨32, II, [.int .i64, .int .i64], 21, [], []⟩

def pcSize : Pc := ⟨33, [.int .i64, .int .i64, .int .i64], [.int .i64, .int .i64, .int .i64], 23, [], []⟩

def pcHasT : Pc := ⟨48, [.int .i64, .int .i64, .int .i64, .agg C2], [.int .i64], 26, [], []⟩

def pcSpan : Pc := ⟨35, [.int .i64, .int .i64, .int .i64, .agg C2], [.agg R4, .int .i64], 27, [], []⟩

def pcAboveR : Pc := ⟨41, [.int .i64, .agg C2], [.agg C2], 29, [], []⟩

abbrev cutLevels : List Nat × Tp := ([0, 0, 1, 1, 1], ⟨28, [(0, .sint .i64 (.var 2)), (1, .sint .i64 (.var 3)), (7, .sint .i64 (.var 4))], [], 0, []⟩)

theorem within_entry : entryK Try.prog [] 50 200 pcWithin.f [] 3 (argSVs 0 pcWithin.aks) 30 [] = some [([(.cmp .lss (.var 1) (.lit 1), true)], .ret (.int .i64 3) ⟨0, .nil⟩), ([(.cmp .lss (.lit 1024) (.var 1), true), (.cmp .lss (.var 1) (.lit 1), false)], .ret (.int .i64 3) ⟨0, .nil⟩), ([(.cmp .lss (.var 2) (.lit 1), true), (.cmp .lss (.lit 1024) (.var 1), false), (.cmp .lss (.var 1) (.lit 1), false)], .ret (.int .i64 3) ⟨0, .nil⟩), ([(.cmp .lss (.lit 1024) (.var 2), true), (.cmp .lss (.var 2) (.lit 1), false), (.cmp .lss (.lit 1024) (.var 1), false), (.cmp .lss (.var 1) (.lit 1), false)], .ret (.int .i64 3) ⟨0, .nil⟩), ([(.cmp .lss (.sel (.rvar 0) (.lit 0) 4 0) (.lit 0), true), (.cmp .lss (.lit 1024) (.var 2), false), (.cmp .lss (.var 2) (.lit 1), false), (.cmp .lss (.lit 1024) (.var 1), false), (.cmp .lss (.var 1) (.lit 1), false)], .ret (.int .i64 4) ⟨0, .nil⟩), ([(.cmp .lss (.sel (.rvar 0) (.lit 0) 4 2) (.lit 0), true), (.cmp .lss (.sel (.rvar 0) (.lit 0) 4 0) (.var 1), true), (.cmp .lss (.sel (.rvar 0) (.lit 0) 4 0) (.lit 0), false), (.cmp .lss (.lit 1024) (.var 2), false), (.cmp .lss (.var 2) (.lit 1), false), (.cmp .lss (.lit 1024) (.var 1), false), (.cmp .lss (.var 1) (.lit 1), false)], .ret (.int .i64 4) ⟨0, .nil⟩), ([(.cmp .lss (.sel (.rvar 0) (.lit 0) 4 1) (.lit 0), true), (.cmp .lss (.sel (.rvar 0) (.lit 0) 4 2) (.var 1), true), (.cmp .lss (.sel (.rvar 0) (.lit 0) 4 2) (.lit 0), false), (.cmp .lss (.sel (.rvar 0) (.lit 0) 4 0) (.var 1), true), (.cmp .lss (.sel (.rvar 0) (.lit 0) 4 0) (.lit 0), false), (.cmp .lss (.lit 1024) (.var 2), false), (.cmp .lss (.var 2) (.lit 1), false), (.cmp .lss (.lit 1024) (.var 1), false), (.cmp .lss (.var 1) (.lit 1), false)], .ret (.int .i64 4) ⟨0, .nil⟩), ([(.cmp .lss (.sel (.rvar 0) (.lit 0) 4 3) (.lit 0), true), (.cmp .lss (.sel (.rvar 0) (.lit 0) 4 1) (.var 2), true), (.cmp .lss (.sel (.rvar 0) (.lit 0) 4 1) (.lit 0), false), (.cmp .lss (.sel (.rvar 0) (.lit 0) 4 2) (.var 1), true), (.cmp .lss (.sel (.rvar 0) (.lit 0) 4 2) (.lit 0), false), (.cmp .lss (.sel (.rvar 0) (.lit 0) 4 0) (.var 1), true), (.cmp .lss (.sel (.rvar 0) (.lit 0) 4 0) (.lit 0), false), (.cmp .lss (.lit 1024) (.var 2), false), (.cmp .lss (.var 2) (.lit 1), false), (.cmp .lss (.lit 1024) (.var 1), false), (.cmp .lss (.var 1) (.lit 1), false)], .ret (.int .i64 4) ⟨0, .nil⟩), ([(.cmp .lss (.sel (.rvar 0) (.lit 0) 4 2) (.sel (.rvar 0) (.lit 0) 4 0), true), (.cmp .lss (.sel (.rvar 0) (.lit 0) 4 3) (.var 2), true), (.cmp .lss (.sel (.rvar 0) (.lit 0) 4 3) (.lit 0), false), (.cmp .lss (.sel (.rvar 0) (.lit 0) 4 1) (.var 2), true), (.cmp .lss (.sel (.rvar 0) (.lit 0) 4 1) (.lit 0), false), (.cmp .lss (.sel (.rvar 0) (.lit 0) 4 2) (.var 1), true), (.cmp .lss (.sel (.rvar 0) (.lit 0) 4 2) (.lit 0), false), (.cmp .lss (.sel (.rvar 0) (.lit 0) 4 0) (.var 1), true), (.cmp .lss (.sel (.rvar 0) (.lit 0) 4 0) (.lit 0), false), (.cmp .lss (.lit 1024) (.var 2), false), (.cmp .lss (.var 2) (.lit 1), false), (.cmp .lss (.lit 1024) (.var 1), false), (.cmp .lss (.var 1) (.lit 1), false)], .ret (.int .i64 5) ⟨0, .nil⟩), ([(.cmp .lss (.sel (.rvar 0) (.lit 0) 4 3) (.sel (.rvar 0) (.lit 0) 4 1), true), (.cmp .lss (.sel (.rvar 0) (.lit 0) 4 2) (.sel (.rvar 0) (.lit 0) 4 0), false), (.cmp .lss (.sel (.rvar 0) (.lit 0) 4 3) (.var 2), true), (.cmp .lss (.sel (.rvar 0) (.lit 0) 4 3) (.lit 0), false), (.cmp .lss (.sel (.rvar 0) (.lit 0) 4 1) (.var 2), true), (.cmp .lss (.sel (.rvar 0) (.lit 0) 4 1) (.lit 0), false), (.cmp .lss (.sel (.rvar 0) (.lit 0) 4 2) (.var 1), true), (.cmp .lss (.sel (.rvar 0) (.lit 0) 4 2) (.lit 0), false), (.cmp .lss (.sel (.rvar 0) (.lit 0) 4 0) (.var 1), true), (.cmp .lss (.sel (.rvar 0) (.lit 0) 4 0) (.lit 0), false), (.cmp .lss (.lit 1024) (.var 2), false), (.cmp .lss (.var 2) (.lit 1), false), (.cmp .lss (.lit 1024) (.var 1), false), (.cmp .lss (.var 1) (.lit 1), false)], .ret (.int .i64 5) ⟨0, .nil⟩), ([(.cmp .lss (.sel (.rvar 0) (.lit 0) 4 3) (.sel (.rvar 0) (.lit 0) 4 1), false), (.cmp .lss (.sel (.rvar 0) (.lit 0) 4 2) (.sel (.rvar 0) (.lit 0) 4 0), false), (.cmp .lss (.sel (.rvar 0) (.lit 0) 4 3) (.var 2), true), (.cmp .lss (.sel (.rvar 0) (.lit 0) 4 3) (.lit 0), false), (.cmp .lss (.sel (.rvar 0) (.lit 0) 4 1) (.var 2), true), (.cmp .lss (.sel (.rvar 0) (.lit 0) 4 1) (.lit 0), false), (.cmp .lss (.sel (.rvar 0) (.lit 0) 4 2) (.var 1), true), (.cmp .lss (.sel (.rvar 0) (.lit 0) 4 2) (.lit 0), false), (.cmp .lss (.sel (.rvar 0) (.lit 0) 4 0) (.var 1), true), (.cmp .lss (.sel (.rvar 0) (.lit 0) 4 0) (.lit 0), false), (.cmp .lss (.lit 1024) (.var 2), false), (.cmp .lss (.var 2) (.lit 1), false), (.cmp .lss (.lit 1024) (.var 1), false), (.cmp .lss (.var 1) (.lit 1), false)], .ret (.int .i64 0) ⟨0, .nil⟩), ([(.cmp .lss (.sel (.rvar 0) (.lit 0) 4 3) (.var 2), false), (.cmp .lss (.sel (.rvar 0) (.lit 0) 4 3) (.lit 0), false), (.cmp .lss (.sel (.rvar 0) (.lit 0) 4 1) (.var 2), true), (.cmp .lss (.sel (.rvar 0) (.lit 0) 4 1) (.lit 0), false), (.cmp .lss (.sel (.rvar 0) (.lit 0) 4 2) (.var 1), true), (.cmp .lss (.sel (.rvar 0) (.lit 0) 4 2) (.lit 0), false), (.cmp .lss (.sel (.rvar 0) (.lit 0) 4 0) (.var 1), true), (.cmp .lss (.sel (.rvar 0) (.lit 0) 4 0) (.lit 0), false), (.cmp .lss (.lit 1024) (.var 2), false), (.cmp .lss (.var 2) (.lit 1), false), (.cmp .lss (.lit 1024) (.var 1), false), (.cmp .lss (.var 1) (.lit 1), false)], .ret (.int .i64 4) ⟨0, .nil⟩), ([(.cmp .lss (.sel (.rvar 0) (.lit 0) 4 1) (.var 2), false), (.cmp .lss (.sel (.rvar 0) (.lit 0) 4 1) (.lit 0), false), (.cmp .lss (.sel (.rvar 0) (.lit 0) 4 2) (.var 1), true), (.cmp .lss (.sel (.rvar 0) (.lit 0) 4 2) (.lit 0), false), (.cmp .lss (.sel (.rvar 0) (.lit 0) 4 0) (.var 1), true), (.cmp .lss (.sel (.rvar 0) (.lit 0) 4 0) (.lit 0), false), (.cmp .lss (.lit 1024) (.var 2), false), (.cmp .lss (.var 2) (.lit 1), false), (.cmp .lss (.lit 1024) (.var 1), false), (.cmp .lss (.var 1) (.lit 1), false)], .ret (.int .i64 4) ⟨0, .nil⟩), ([(.cmp .lss (.sel (.rvar 0) (.lit 0) 4 2) (.var 1), false), (.cmp .lss (.sel (.rvar 0) (.lit 0) 4 2) (.lit 0), false), (.cmp .lss (.sel (.rvar 0) (.lit 0) 4 0) (.var 1), true), (.cmp .lss (.sel (.rvar 0) (.lit 0) 4 0) (.lit 0), false), (.cmp .lss (.lit 1024) (.var 2), false), (.cmp .lss (.var 2) (.lit 1), false), (.cmp .lss (.lit 1024) (.var 1), false), (.cmp .lss (.var 1) (.lit 1), false)], .ret (.int .i64 4) ⟨0, .nil⟩), ([(.cmp .lss (.sel (.rvar 0) (.lit 0) 4 0) (.var 1), false), (.cmp .lss (.sel (.rvar 0) (.lit 0) 4 0) (.lit 0), false), (.cmp .lss (.lit 1024) (.var 2), false), (.cmp .lss (.var 2) (.lit 1), false), (.cmp .lss (.lit 1024) (.var 1), false), (.cmp .lss (.var 1) (.lit 1), false)], .ret (.int .i64 4) ⟨0, .nil⟩)] := by kernel_rfl

theorem levels_entry : entryK Try.prog [pcWithin.ct] 50 200 32 [cutLevels] 2 (argSVs 0 II) 30 [] = some [([(.cmp .eql (.app 20 (.acons (.rcons (.lit 0) (.rcons (.lit 0) (.rcons (.lit 0) (.rcons (.lit 0) .rnil)))) (.acons (.rcons (.var 0) .rnil) (.acons (.rcons (.var 1) .rnil) .anil)))) (.lit 0), true)], .cut 0 ⟨[(4, .lit 1), (3, .var 1), (2, .var 0)], [], [], []⟩), ([(.cmp .eql (.app 20 (.acons (.rcons (.lit 0) (.rcons (.lit 0) (.rcons (.lit 0) (.rcons (.lit 0) .rnil)))) (.acons (.rcons (.var 0) .rnil) (.acons (.rcons (.var 1) .rnil) .anil)))) (.lit 0), false)], .ret (.tuple [.int .i64 0, .sint .i64 (.app 20 (.acons (.rcons (.lit 0) (.rcons (.lit 0) (.rcons (.lit 0) (.rcons (.lit 0) .rnil)))) (.acons (.rcons (.var 0) .rnil) (.acons (.rcons (.var 1) .rnil) .anil))))]) ⟨0, .nil⟩)] := by kernel_rfl

theorem levels_rounds : roundsK Try.prog [pcWithin.ct] 50 200 32 [cutLevels] 2 30 [cutLevels] = some [[([(.cmp .lss (.lit 1) (.var 2), true)], .cut 0 ⟨[(4, .bin .add .i64 (.var 4) (.lit 1)), (3, .bin .quo .i64 (.bin .add .i64 (.var 3) (.lit 1)) (.lit 2)), (2, .bin .quo .i64 (.bin .add .i64 (.var 2) (.lit 1)) (.lit 2))], [], [], []⟩), ([(.cmp .lss (.lit 1) (.var 3), true), (.cmp .lss (.lit 1) (.var 2), false)], .cut 0 ⟨[(4, .bin .add .i64 (.var 4) (.lit 1)), (3, .bin .quo .i64 (.bin .add .i64 (.var 3) (.lit 1)) (.lit 2)), (2, .bin .quo .i64 (.bin .add .i64 (.var 2) (.lit 1)) (.lit 2))], [], [], []⟩), ([(.cmp .lss (.lit 1) (.var 3), false), (.cmp .lss (.lit 1) (.var 2), false)], .ret (.tuple [.sint .i64 (.var 4), .int .i64 0]) ⟨0, .nil⟩)]] := by kernel_rfl

theorem hasT_entry : entryK Try.prog [pcSize.ct] 50 200 48 [] 4 (argSVs 0 pcHasT.aks) 30 [] = some [([(.cmp .lss (.sel (.rvar 3) (.lit 0) 2 0) (.lit 0), true), (.cmp .eql (.app 25 (.acons (.rcons (.var 0) .rnil) (.acons (.rcons (.var 1) .rnil) (.acons (.rcons (.var 2) .rnil) .anil)))) (.lit 0), true)], .ret (.int .i64 4) ⟨0, .nil⟩), ([(.cmp .lss (.sel (.rvar 3) (.lit 0) 2 1) (.lit 0), true), (.cmp .lss (.sel (.rvar 3) (.lit 0) 2 0) (.app 23 (.acons (.rcons (.var 0) .rnil) (.acons (.rcons (.var 1) .rnil) (.acons (.rcons (.var 2) .rnil) .anil)))), true), (.cmp .lss (.sel (.rvar 3) (.lit 0) 2 0) (.lit 0), false), (.cmp .eql (.app 25 (.acons (.rcons (.var 0) .rnil) (.acons (.rcons (.var 1) .rnil) (.acons (.rcons (.var 2) .rnil) .anil)))) (.lit 0), true)], .ret (.int .i64 4) ⟨0, .nil⟩), ([(.cmp .lss (.sel (.rvar 3) (.lit 0) 2 1) (.app 24 (.acons (.rcons (.var 0) .rnil) (.acons (.rcons (.var 1) .rnil) (.acons (.rcons (.var 2) .rnil) .anil)))), true), (.cmp .lss (.sel (.rvar 3) (.lit 0) 2 1) (.lit 0), false), (.cmp .lss (.sel (.rvar 3) (.lit 0) 2 0) (.app 23 (.acons (.rcons (.var 0) .rnil) (.acons (.rcons (.var 1) .rnil) (.acons (.rcons (.var 2) .rnil) .anil)))), true), (.cmp .lss (.sel (.rvar 3) (.lit 0) 2 0) (.lit 0), false), (.cmp .eql (.app 25 (.acons (.rcons (.var 0) .rnil) (.acons (.rcons (.var 1) .rnil) (.acons (.rcons (.var 2) .rnil) .anil)))) (.lit 0), true)], .ret (.int .i64 0) ⟨0, .nil⟩), ([(.cmp .lss (.sel (.rvar 3) (.lit 0) 2 1) (.app 24 (.acons (.rcons (.var 0) .rnil) (.acons (.rcons (.var 1) .rnil) (.acons (.rcons (.var 2) .rnil) .anil)))), false), (.cmp .lss (.sel (.rvar 3) (.lit 0) 2 1) (.lit 0), false), (.cmp .lss (.sel (.rvar 3) (.lit 0) 2 0) (.app 23 (.acons (.rcons (.var 0) .rnil) (.acons (.rcons (.var 1) .rnil) (.acons (.rcons (.var 2) .rnil) .anil)))), true), (.cmp .lss (.sel (.rvar 3) (.lit 0) 2 0) (.lit 0), false), (.cmp .eql (.app 25 (.acons (.rcons (.var 0) .rnil) (.acons (.rcons (.var 1) .rnil) (.acons (.rcons (.var 2) .rnil) .anil)))) (.lit 0), true)], .ret (.int .i64 4) ⟨0, .nil⟩), ([(.cmp .lss (.sel (.rvar 3) (.lit 0) 2 0) (.app 23 (.acons (.rcons (.var 0) .rnil) (.acons (.rcons (.var 1) .rnil) (.acons (.rcons (.var 2) .rnil) .anil)))), false), (.cmp .lss (.sel (.rvar 3) (.lit 0) 2 0) (.lit 0), false), (.cmp .eql (.app 25 (.acons (.rcons (.var 0) .rnil) (.acons (.rcons (.var 1) .rnil) (.acons (.rcons (.var 2) .rnil) .anil)))) (.lit 0), true)], .ret (.int .i64 4) ⟨0, .nil⟩), ([(.cmp .eql (.app 25 (.acons (.rcons (.var 0) .rnil) (.acons (.rcons (.var 1) .rnil) (.acons (.rcons (.var 2) .rnil) .anil)))) (.lit 0), false)], .ret (.sint .i64 (.app 25 (.acons (.rcons (.var 0) .rnil) (.acons (.rcons (.var 1) .rnil) (.acons (.rcons (.var 2) .rnil) .anil))))) ⟨0, .nil⟩)] := by kernel_rfl

theorem span_entry : entryK Try.prog [pcHasT.ct] 50 200 35 [] 4 (argSVs 0 pcSpan.aks) 30 [] = some [([(.cmp .lss (.var 2) (.lit 0), true), (.cmp .eql (.app 26 (.acons (.rcons (.var 0) .rnil) (.acons (.rcons (.var 1) .rnil) (.acons (.rcons (.var 2) .rnil) (.acons (.rcons (.sel (.rvar 3) (.lit 0) 2 0) (.rcons (.sel (.rvar 3) (.lit 0) 2 1) .rnil)) .anil))))) (.lit 0), true)], .bad), ([(.cmp .lss (.var 2) (.lit 0), false), (.cmp .eql (.app 26 (.acons (.rcons (.var 0) .rnil) (.acons (.rcons (.var 1) .rnil) (.acons (.rcons (.var 2) .rnil) (.acons (.rcons (.sel (.rvar 3) (.lit 0) 2 0) (.rcons (.sel (.rvar 3) (.lit 0) 2 1) .rnil)) .anil))))) (.lit 0), true)], .ret (.tuple [.agg [.sint .i64 (.bin .shl .i64 (.sel (.rvar 3) (.lit 0) 2 0) (.var 2)), .sint .i64 (.bin .shl .i64 (.sel (.rvar 3) (.lit 0) 2 1) (.var 2)), .sint .i64 (.bin .sub .i64 (.bin .lss .i64 (.var 0) (.bin .shl .i64 (.bin .add .i64 (.sel (.rvar 3) (.lit 0) 2 0) (.lit 1)) (.var 2))) (.lit 1)), .sint .i64 (.bin .sub .i64 (.bin .lss .i64 (.var 1) (.bin .shl .i64 (.bin .add .i64 (.sel (.rvar 3) (.lit 0) 2 1) (.lit 1)) (.var 2))) (.lit 1))], .int .i64 0]) ⟨0, .nil⟩), ([(.cmp .eql (.app 26 (.acons (.rcons (.var 0) .rnil) (.acons (.rcons (.var 1) .rnil) (.acons (.rcons (.var 2) .rnil) (.acons (.rcons (.sel (.rvar 3) (.lit 0) 2 0) (.rcons (.sel (.rvar 3) (.lit 0) 2 1) .rnil)) .anil))))) (.lit 0), false)], .ret (.tuple [.agg [.int .i64 0, .int .i64 0, .int .i64 0, .int .i64 0], .sint .i64 (.app 26 (.acons (.rcons (.var 0) .rnil) (.acons (.rcons (.var 1) .rnil) (.acons (.rcons (.var 2) .rnil) (.acons (.rcons (.sel (.rvar 3) (.lit 0) 2 0) (.rcons (.sel (.rvar 3) (.lit 0) 2 1) .rnil)) .anil)))))]) ⟨0, .nil⟩)] := by kernel_rfl

theorem len4 {l : List Int} (h : l.length = 4) : ∃ a b c d, l = [a, b, c, d] := by
  match l, h with
  | [a, b, c, d], _ => exact ⟨a, b, c, d, rfl⟩

theorem len2 {l : List Int} (h : l.length = 2) : ∃ a b, l = [a, b] := by
  match l, h with
  | [a, b], _ => exact ⟨a, b, rfl⟩

theorem sel4 (a b c d : Int) : selL [a, b, c, d] 0 4 0 = a ∧ selL [a, b, c, d] 0 4 1 = b ∧ selL [a, b, c, d] 0 4 2 = c ∧ selL [a, b, c, d] 0 4 3 = d := by simp [selL]

theorem sel2 (a b : Int) : selL [a, b] 0 2 0 = a ∧ selL [a, b] 0 2 1 = b := by simp [selL]

theorem within_ok : PcOk Try.prog FN pcWithin := by
  refine pc_floyd (cs := []) mix pcWithin (fun _ _ => knOk_nil) (by decide) (by rfl) within_entry (fun _ _ _ => False) (fun _ _ _ => (0, 0)) (fun _ _ _ h => h.elim) ?_
  intro ls e0 hf hargs hrng hpre
  simp only [pcWithin, ArgsE, ArgE] at hargs
  obtain ⟨a, _, rfl, ⟨ha, hl⟩, b, _, rfl, hb, c, _, rfl, hc, rfl⟩ := hargs
  obtain ⟨x0, y0, x1, y1, rfl⟩ := len4 hl
  obtain ⟨w, hw⟩ : ∃ n, vInt (e0.val 1) = n := ⟨_, rfl⟩
  obtain ⟨h, hh⟩ : ∃ n, vInt (e0.val 2) = n := ⟨_, rfl⟩
  simp only [Nat.zero_add, Nat.reduceAdd, hw, hh] at hb hc
  subst hb; subst hc
  refine ⟨fun _ _ => ⟨trivial, trivial⟩, ?_⟩
  simp only [allLeaves, AsOk_cons, AsOk_nil, BE.eval, cmpI, IE.eval, IE.reval, IE.aeval, ha, hw, hh, hf, sel4, and_true, decide_eq_true_eq, decide_eq_false_iff_not, StepG, pcWithin]
  repeat' apply And.intro
  all_goals intro hA
  all_goals refine ⟨[_], rfl, ⟨_, rfl, ?_⟩, rfl⟩
  all_goals simp only [FN, g20, g21, g22, g23, g24, g25, g26, g27, g28, g29, IE.eval, List.headD_cons, withinC]
  all_goals first
    | (rw [if_neg (by omega)])
    | (rw [if_pos (by omega), if_neg (by omega)])
    | (rw [if_pos (by omega), if_pos (by omega), if_pos (by omega)])
    | (rw [if_pos (by omega), if_pos (by omega), if_neg (by omega)])

theorem knWithin : ∀ env : Env, env.fn = FN → KnOk Try.prog env [pcWithin.ct] := fun env h => knOk_cons knOk_nil (Pc.ct_ok h within_ok)

theorem within0 (w h : Int) : withinC 0 0 0 0 w h = levC w h := by
  unfold withinC levC
  by_cases h1 : szOk w h
  · have h2 := h1
    unfold szOk at h2
    rw [if_pos h1, if_pos h2, if_pos (by omega), if_neg (by omega)]
  · have h2 := h1
    unfold szOk at h2
    rw [if_neg h1, if_neg h2]

theorem levC_zero {w h : Int} : levC w h = 0 ↔ szOk w h := by unfold levC; split <;> simp_all

def invLevels (ls : List (List Int)) (i : Nat) (env : Env) : Prop := i = 0 ∧ ∃ w h, ls = [[w], [h]] ∧ szOk w h ∧ ∃ (f : Nat) (w' h' n : Int), (vInt (env.val 2) = w' ∧ vInt (env.val 3) = h' ∧ vInt (env.val 4) = n) ∧
  f ≤ 10 ∧ 1 ≤ w' ∧ 1 ≤ h' ∧ w' ≤ 1024 ∧ h' ≤ 1024 ∧ w' ≤ ((2 ^ f : Nat) : Int) ∧ h' ≤ ((2 ^ f : Nat) : Int) ∧ n = 11 - f ∧ n + (lv f w' h' : Nat) - 1 = (lv 10 w h : Nat)

theorem levels_ok : PcOk Try.prog FN pcLevels := by
  refine pc_floyd (cs := [cutLevels]) mix pcLevels knWithin (by decide) levels_rounds levels_entry invLevels (fun ls _ env => (0, (vInt (env.val 2) + vInt (env.val 3)).toNat)) (fun ls i env h => by have := h.1; simp; omega) ?_
  intro ls e0 hf hargs hrng hpre
  simp only [pcLevels, II, ArgsE, ArgE] at hargs
  obtain ⟨a, _, rfl, ha, b, _, rfl, hb, rfl⟩ := hargs
  obtain ⟨w, hw⟩ : ∃ n, vInt (e0.val 0) = n := ⟨_, rfl⟩
  obtain ⟨h, hh⟩ : ∃ n, vInt (e0.val 1) = n := ⟨_, rfl⟩
  simp only [Nat.zero_add, Nat.reduceAdd, hw, hh] at ha hb
  subst ha; subst hb
  refine ⟨fun env hfn => ⟨⟨fun _ => by simp only [AsOk_nil], trivial⟩, ⟨?_, trivial⟩⟩, ?_⟩
  · rintro ⟨_, w0, h0, hl, hok, f, w', h', n, ⟨q1, q2, q3⟩, q4, q5, q6, q7, q8, q9, q10, q11, q12⟩
    simp only [List.cons.injEq, and_true] at hl
    obtain ⟨rfl, rfl⟩ := hl
    simp only [allLeaves, AsOk_cons, AsOk_nil, BE.eval, cmpI, IE.eval, IE.reval, q1, q2, q3, and_true, decide_eq_true_eq, decide_eq_false_iff_not]
    have hz : f = 0 → w' ≤ 1 ∧ h' ≤ 1 := by rintro rfl; exact ⟨q9, q10⟩
    have cutOk : (1 < w' ∨ 1 < h') → StepG FN [[w], [h]] pcLevels.id pcLevels.rks (invLevels [[w], [h]]) (fun _ env => (0, (vInt (env.val 2) + vInt (env.val 3)).toNat)) (some (0, (w' + h').toNat)) env (.cut 0 ⟨[(4, .bin .add .i64 (.var 4) (.lit 1)), (3, .bin .quo .i64 (.bin .add .i64 (.var 3) (.lit 1)) (.lit 2)), (2, .bin .quo .i64 (.bin .add .i64 (.var 2) (.lit 1)) (.lit 2))], [], [], []⟩) := by
      intro hc
      obtain ⟨g, rfl⟩ : ∃ g, f = g + 1 := ⟨f - 1, by have := hz; omega⟩
      have p1 := hv_pos q5
      have p2 := hv_pos q6
      have p3 := hv_le q5
      have p4 := hv_le q6
      have p5 := lv_step hc g
      refine stepG_cut ⟨rfl, w, h, rfl, hok, g, hv w', hv h', n + 1, ⟨?_, ?_, ?_⟩, by omega, p1, p2, by omega, by omega, hv_pow q9, hv_pow q10, by omega, by omega⟩ (Prod.Lex.right _ ?_)
      · simp (disch := omega) [upd, lk_cons, lk_nil, IE.eval, binI, q1, q2, q3, vInt_int, wrap_i64, hv_tdiv]
      · simp (disch := omega) [upd, lk_cons, lk_nil, IE.eval, binI, q1, q2, q3, vInt_int, wrap_i64, hv_tdiv]
      · simp (disch := omega) [upd, lk_cons, lk_nil, IE.eval, binI, q1, q2, q3, vInt_int, wrap_i64, hv_tdiv]
      · simp (disch := omega) [upd, lk_cons, lk_nil, IE.eval, binI, q1, q2, q3, vInt_int, wrap_i64, hv_tdiv]
        rcases hc with hc | hc
        · have := hv_lt hc; omega
        · have := hv_lt hc; omega
    refine ⟨fun hA => ?_, fun hA => ?_, fun hA => ?_⟩
    · have := cutOk (.inl hA); simpa only [q1, q2] using this
    · have := cutOk (.inr hA.1); simpa only [q1, q2] using this
    · refine ⟨[_, _], rfl, ⟨_, rfl, ?_⟩, ⟨_, rfl, ?_⟩, rfl⟩
      · simp only [FN, g20, g21, g22, g23, g24, g25, g26, g27, g28, g29, pcLevels, IE.eval, List.headD_cons, q3, levN, if_pos hok]
        rw [lv_stop (by omega)] at q12; omega
      · simp only [FN, g20, g21, g22, g23, g24, g25, g26, g27, g28, g29, pcLevels, IE.eval, List.headD_cons, levC, if_pos hok]
  · simp only [allLeaves, AsOk_cons, AsOk_nil, BE.eval, cmpI, IE.eval, IE.reval, IE.aeval, hw, hh, hf, FN, g20, g21, g22, g23, g24, g25, g26, g27, g28, g29, List.headD_cons, within0, levC_zero, and_true, decide_eq_true_eq, decide_eq_false_iff_not]
    refine ⟨fun hA => stepG_cut0 ⟨rfl, w, h, rfl, hA, 10, w, h, 1, ?_⟩, fun hA => ⟨[_, _], rfl, ⟨_, rfl, ?_⟩, ⟨_, rfl, ?_⟩, rfl⟩⟩
    · unfold szOk at hA
      refine ⟨⟨?_, ?_, ?_⟩, by omega, by omega, by omega, by omega, by omega, ?_, ?_, by omega, by omega⟩
      · simp [upd, lk_cons, lk_nil, IE.eval, hw, vInt_int]
      · simp [upd, lk_cons, lk_nil, IE.eval, hh, vInt_int]
      · simp [upd, lk_cons, lk_nil, IE.eval, vInt_int]
      · show w ≤ 1024; omega
      · show h ≤ 1024; omega
    · simp only [FN, g20, g21, g22, g23, g24, g25, g26, g27, g28, g29, pcLevels, IE.eval, List.headD_cons, levN, if_neg hA]
    · simp only [FN, g20, g21, g22, g23, g24, g25, g26, g27, g28, g29, pcLevels, IE.eval, IE.reval, IE.aeval, hf, hw, hh, List.headD_cons, within0]

end Go.Proofs.Ytagahpfinaaemaa
