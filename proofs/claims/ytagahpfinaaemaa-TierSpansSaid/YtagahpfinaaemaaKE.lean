import Derived.Test.YtagahpfinaaemaaKD

namespace Go.Proofs.Ytagahpfinaaemaa

open Go Go.Sym

set_option linter.unusedVariables false

abbrev cellB : Nat × Blk := (0, ⟨25, 2, [.sint .i64 (.sel (.rvar 3) (.lit 0) 2 0), .sint .i64 (.sel (.rvar 3) (.lit 0) 2 1)], .nil, false, none⟩)

abbrev rowB : Nat × Blk := (1, ⟨25, 0, [], .nil, true, some (.rvar 4, .var 9, C2)⟩)

abbrev stK : List (Nat × SV) := [(3, .agg [.sint .i64 (.sel (.rvar 3) (.lit 0) 2 0), .sint .i64 (.sel (.rvar 3) (.lit 0) 2 1)]), (7, .ptr 0 0), (13, .sint .i64 (.var 4)), (14, .sint .i64 (.var 5)), (17, .sint .i64 (.var 6))]

abbrev asK : As := [(nonneg (.var 9), true), (atmB (.var 9) (.lit 8), true)]

abbrev pY : List Nat := [0, 1, 0, 1, 1, 1, 1, 1, 1, 1]

abbrev pX : List Nat := [0, 1, 0, 0, 1, 0, 0, 1, 0, 1, 1, 1, 1, 1, 1, 1]

abbrev cutsK : Cuts := [(pY, ⟨83, (16, .nilslice) :: stK, [cellB], 1, []⟩), (pX, ⟨83, (18, .sint .i64 (.var 7)) :: (16, .nilslice) :: stK, [cellB], 1, []⟩), (pY, ⟨83, (16, .rsl (.own 1) (.lit 0) (.var 9) 2) :: stK, [cellB, rowB], 2, asK⟩), (pX, ⟨83, (18, .sint .i64 (.var 7)) :: (16, .rsl (.own 1) (.lit 0) (.var 9) 2) :: stK, [cellB, rowB], 2, asK⟩)]

theorem kids_entry : entryK Try.prog [pcLevels.ct, pcSize.ct, pcHasT.ct] 50 200 36 cutsK 4 (argSVs 0 pcSpan.aks) 30 [] = some [([(.cmp .eql (.var 2) (.lit 0), true), (.cmp .eql (.app 22 (.acons (.rcons (.var 0) .rnil) (.acons (.rcons (.var 1) .rnil) .anil))) (.lit 0), true)], .ret (.tuple [.nilslice, .int .i64 11]) ⟨0, .nil⟩), ([(.cmp .eql (.app 25 (.acons (.rcons (.var 0) .rnil) (.acons (.rcons (.var 1) .rnil) (.acons (.rcons (.bin .sub .i64 (.var 2) (.lit 1)) .rnil) .anil)))) (.lit 0), true), (.cmp .eql (.app 26 (.acons (.rcons (.var 0) .rnil) (.acons (.rcons (.var 1) .rnil) (.acons (.rcons (.var 2) .rnil) (.acons (.rcons (.sel (.rvar 3) (.lit 0) 2 0) (.rcons (.sel (.rvar 3) (.lit 0) 2 1) .rnil)) .anil))))) (.lit 0), true), (.cmp .eql (.var 2) (.lit 0), false), (.cmp .eql (.app 22 (.acons (.rcons (.var 0) .rnil) (.acons (.rcons (.var 1) .rnil) .anil))) (.lit 0), true)], .cut 0 ⟨[(6, .bin .mul .i64 (.lit 2) (.sel (.rvar 3) (.lit 0) 2 1)), (5, .app 24 (.acons (.rcons (.var 0) .rnil) (.acons (.rcons (.var 1) .rnil) (.acons (.rcons (.bin .sub .i64 (.var 2) (.lit 1)) .rnil) .anil)))), (4, .app 23 (.acons (.rcons (.var 0) .rnil) (.acons (.rcons (.var 1) .rnil) (.acons (.rcons (.bin .sub .i64 (.var 2) (.lit 1)) .rnil) .anil))))], [], [], [(0, 0)]⟩), ([(.cmp .eql (.app 25 (.acons (.rcons (.var 0) .rnil) (.acons (.rcons (.var 1) .rnil) (.acons (.rcons (.bin .sub .i64 (.var 2) (.lit 1)) .rnil) .anil)))) (.lit 0), false), (.cmp .eql (.app 26 (.acons (.rcons (.var 0) .rnil) (.acons (.rcons (.var 1) .rnil) (.acons (.rcons (.var 2) .rnil) (.acons (.rcons (.sel (.rvar 3) (.lit 0) 2 0) (.rcons (.sel (.rvar 3) (.lit 0) 2 1) .rnil)) .anil))))) (.lit 0), true), (.cmp .eql (.var 2) (.lit 0), false), (.cmp .eql (.app 22 (.acons (.rcons (.var 0) .rnil) (.acons (.rcons (.var 1) .rnil) .anil))) (.lit 0), true)], .ret (.tuple [.nilslice, .sint .i64 (.app 25 (.acons (.rcons (.var 0) .rnil) (.acons (.rcons (.var 1) .rnil) (.acons (.rcons (.bin .sub .i64 (.var 2) (.lit 1)) .rnil) .anil))))]) ⟨0, .nil⟩), ([(.cmp .eql (.app 26 (.acons (.rcons (.var 0) .rnil) (.acons (.rcons (.var 1) .rnil) (.acons (.rcons (.var 2) .rnil) (.acons (.rcons (.sel (.rvar 3) (.lit 0) 2 0) (.rcons (.sel (.rvar 3) (.lit 0) 2 1) .rnil)) .anil))))) (.lit 0), false), (.cmp .eql (.var 2) (.lit 0), false), (.cmp .eql (.app 22 (.acons (.rcons (.var 0) .rnil) (.acons (.rcons (.var 1) .rnil) .anil))) (.lit 0), true)], .ret (.tuple [.nilslice, .sint .i64 (.app 26 (.acons (.rcons (.var 0) .rnil) (.acons (.rcons (.var 1) .rnil) (.acons (.rcons (.var 2) .rnil) (.acons (.rcons (.sel (.rvar 3) (.lit 0) 2 0) (.rcons (.sel (.rvar 3) (.lit 0) 2 1) .rnil)) .anil)))))]) ⟨0, .nil⟩), ([(.cmp .eql (.app 22 (.acons (.rcons (.var 0) .rnil) (.acons (.rcons (.var 1) .rnil) .anil))) (.lit 0), false)], .ret (.tuple [.nilslice, .sint .i64 (.app 22 (.acons (.rcons (.var 0) .rnil) (.acons (.rcons (.var 1) .rnil) .anil)))]) ⟨0, .nil⟩)] := by kernel_rfl

theorem kids_rounds : roundsK Try.prog [pcLevels.ct, pcSize.ct, pcHasT.ct] 50 200 36 cutsK 4 30 cutsK = some [[([(.cmp .lss (.var 6) (.bin .lss .i64 (.var 5) (.bin .add .i64 (.bin .mul .i64 (.lit 2) (.sel (.rvar 3) (.lit 0) 2 1)) (.lit 2))), true)], .cut 1 ⟨[(6, .var 6), (5, .var 5), (4, .var 4), (7, .bin .mul .i64 (.lit 2) (.sel (.rvar 3) (.lit 0) 2 0))], [], [], [(0, 0)]⟩), ([(.cmp .lss (.var 6) (.bin .lss .i64 (.var 5) (.bin .add .i64 (.bin .mul .i64 (.lit 2) (.sel (.rvar 3) (.lit 0) 2 1)) (.lit 2))), false)], .ret (.tuple [.nilslice, .int .i64 0]) ⟨0, .nil⟩)], [([(.cmp .lss (.var 7) (.bin .lss .i64 (.var 4) (.bin .add .i64 (.bin .mul .i64 (.lit 2) (.sel (.rvar 3) (.lit 0) 2 0)) (.lit 2))), true)], .cut 3 ⟨[(6, .var 6), (5, .var 5), (4, .var 4), (9, .lit 1), (7, .bin .add .i64 (.var 7) (.lit 1))], [(4, .rcons (.var 7) (.rcons (.var 6) .rnil))], [], [(0, 0), (1, 2)]⟩), ([(.cmp .lss (.var 7) (.bin .lss .i64 (.var 4) (.bin .add .i64 (.bin .mul .i64 (.lit 2) (.sel (.rvar 3) (.lit 0) 2 0)) (.lit 2))), false)], .cut 0 ⟨[(6, .bin .add .i64 (.var 6) (.lit 1)), (5, .var 5), (4, .var 4)], [], [], [(0, 0)]⟩)], [([(.cmp .lss (.var 6) (.bin .lss .i64 (.var 5) (.bin .add .i64 (.bin .mul .i64 (.lit 2) (.sel (.rvar 3) (.lit 0) 2 1)) (.lit 2))), true), (.not (.cmp .lss (.var 9) (.lit 0)), true), (.not (.cmp .lss (.lit 8) (.var 9)), true)], .cut 3 ⟨[(6, .var 6), (5, .var 5), (4, .var 4), (9, .var 9), (7, .bin .mul .i64 (.lit 2) (.sel (.rvar 3) (.lit 0) 2 0))], [(4, .rvar 4)], [], [(0, 0), (1, 1)]⟩), ([(.cmp .lss (.var 6) (.bin .lss .i64 (.var 5) (.bin .add .i64 (.bin .mul .i64 (.lit 2) (.sel (.rvar 3) (.lit 0) 2 1)) (.lit 2))), false), (.not (.cmp .lss (.var 9) (.lit 0)), true), (.not (.cmp .lss (.lit 8) (.var 9)), true)], .ret (.tuple [.rsl (.own 1) (.lit 0) (.var 9) 2, .int .i64 0]) ⟨2, (.node (some ⟨25, 2, [.sint .i64 (.sel (.rvar 3) (.lit 0) 2 0), .sint .i64 (.sel (.rvar 3) (.lit 0) 2 1)], .nil, false, none⟩) (.node (some ⟨25, 0, [], .nil, true, (some (.rvar 4, (.var 9, [.i64, .i64])))⟩) .nil .nil) .nil)⟩)], [([(.cmp .lss (.var 7) (.bin .lss .i64 (.var 4) (.bin .add .i64 (.bin .mul .i64 (.lit 2) (.sel (.rvar 3) (.lit 0) 2 0)) (.lit 2))), true), (.not (.cmp .lss (.var 9) (.lit 0)), true), (.not (.cmp .lss (.lit 8) (.var 9)), true)], .cut 3 ⟨[(6, .var 6), (5, .var 5), (4, .var 4), (9, .plus (.var 9) (.lit 1)), (7, .bin .add .i64 (.var 7) (.lit 1))], [(4, .cat (.rvar 4) (.rcons (.var 7) (.rcons (.var 6) .rnil)))], [], [(0, 0), (1, 3)]⟩), ([(.cmp .lss (.var 7) (.bin .lss .i64 (.var 4) (.bin .add .i64 (.bin .mul .i64 (.lit 2) (.sel (.rvar 3) (.lit 0) 2 0)) (.lit 2))), false), (.not (.cmp .lss (.var 9) (.lit 0)), true), (.not (.cmp .lss (.lit 8) (.var 9)), true)], .cut 2 ⟨[(6, .bin .add .i64 (.var 6) (.lit 1)), (5, .var 5), (4, .var 4), (9, .var 9)], [(4, .rvar 4)], [], [(0, 0), (1, 1)]⟩)]] := by kernel_rfl

def pcKids : Pc := ⟨36, [.int .i64, .int .i64, .int .i64, .agg C2], [.sl 25 C2, .int .i64], 30, [], []⟩

theorem knKids : ∀ env : Env, env.fn = FN → KnOk Try.prog env [pcLevels.ct, pcSize.ct, pcHasT.ct] := fun env h => knOk_cons (knOk_cons (knOk_cons knOk_nil (Pc.ct_ok h hasT_ok)) (Pc.ct_ok h size_ok)) (Pc.ct_ok h levels_ok)

def doneK (A x y y' : Int) : List Int := if y' = 2 * y then [] else if y' = 2 * y + 1 then rowK A (2 * x) (2 * y) else rowK A (2 * x) (2 * y) ++ rowK A (2 * x) (2 * y + 1)

def partK (x x' y' : Int) : List Int := if x' = 2 * x then [] else if x' = 2 * x + 1 then [2 * x, y'] else [2 * x, y', 2 * x + 1, y']

theorem rowK_len (A X Y : Int) : (rowK A X Y).length ≤ 4 := by unfold rowK; split <;> simp
theorem doneK_len (A x y y' : Int) : (doneK A x y y').length ≤ 8 := by
  have h1 := rowK_len A (2 * x) (2 * y)
  have h2 := rowK_len A (2 * x) (2 * y + 1)
  unfold doneK; split
  · simp
  · split
    · omega
    · simp; omega
theorem partK_len (x x' y' : Int) : (partK x x' y').length ≤ 4 := by unfold partK; split <;> (try split) <;> simp

theorem doneK_step {A x y y' : Int} (h1 : 2 * y ≤ y') (h2 : y' < 2 * y + 2) : doneK A x y (y' + 1) = doneK A x y y' ++ rowK A (2 * x) y' := by
  rcases (by omega : y' = 2 * y ∨ y' = 2 * y + 1) with rfl | rfl
  · simp only [doneK, if_neg (show ¬ 2 * y + 1 = 2 * y by omega), if_true, List.nil_append]
  · simp only [doneK, if_neg (show ¬ 2 * y + 1 + 1 = 2 * y by omega), if_neg (show ¬ 2 * y + 1 + 1 = 2 * y + 1 by omega), if_neg (show ¬ 2 * y + 1 = 2 * y by omega), if_true]

theorem partK_step {x x' y' : Int} (h1 : 2 * x ≤ x') (h2 : x' < 2 * x + 2) : partK x (x' + 1) y' = partK x x' y' ++ [x', y'] := by
  rcases (by omega : x' = 2 * x ∨ x' = 2 * x + 1) with rfl | rfl
  · simp only [partK, if_neg (show ¬ 2 * x + 1 = 2 * x by omega), if_true, List.nil_append]
  · simp only [partK, if_neg (show ¬ 2 * x + 1 + 1 = 2 * x by omega), if_neg (show ¬ 2 * x + 1 + 1 = 2 * x + 1 by omega), if_neg (show ¬ 2 * x + 1 = 2 * x by omega), if_true, List.cons_append, List.nil_append]

theorem partK_end {A x x' y' : Int} (h0 : 2 * x < A) (h1 : x' = min A (2 * x + 2)) : partK x x' y' = rowK A (2 * x) y' := by
  by_cases hc : 2 * x + 1 < A
  · obtain rfl : x' = 2 * x + 2 := by omega
    simp only [partK, rowK, if_pos hc, if_neg (show ¬ 2 * x + 2 = 2 * x by omega), if_neg (show ¬ 2 * x + 2 = 2 * x + 1 by omega)]
  · obtain rfl : x' = 2 * x + 1 := by omega
    simp only [partK, rowK, if_neg hc, if_neg (show ¬ 2 * x + 1 = 2 * x by omega), if_true]

theorem doneK_end {A B x y y' : Int} (h0 : 2 * y < B) (h1 : y' = min B (2 * y + 2)) : doneK A x y y' = kidsL A B x y := by
  by_cases hc : 2 * y + 1 < B
  · obtain rfl : y' = 2 * y + 2 := by omega
    simp only [doneK, kidsL, if_pos hc, if_neg (show ¬ 2 * y + 2 = 2 * y by omega), if_neg (show ¬ 2 * y + 2 = 2 * y + 1 by omega)]
  · obtain rfl : y' = 2 * y + 1 := by omega
    simp only [doneK, kidsL, if_neg hc, if_neg (show ¬ 2 * y + 1 = 2 * y by omega), if_true, List.append_nil]

def comK (ls : List (List Int)) (env : Env) (A B x y y' : Int) : Prop := (∃ w h k, ls = [[w], [h], [k], [x, y]] ∧ kidsC w h k x y = 0 ∧ A = hvN (k.toNat - 1) w ∧ B = hvN (k.toNat - 1) h) ∧ (env.row 3 = [x, y] ∧ vInt (env.val 4) = A ∧ vInt (env.val 5) = B ∧ vInt (env.val 6) = y') ∧ 0 ≤ x ∧ 0 ≤ y ∧ A ≤ 1024 ∧ B ≤ 1024 ∧ 2 * x < A ∧ 2 * y < B ∧ 2 * y ≤ y' ∧ y' ≤ min B (2 * y + 2)

def invK (ls : List (List Int)) (i : Nat) (env : Env) : Prop := ∃ A B x y y', comK ls env A B x y y' ∧
  ((i = 0 ∧ y' = 2 * y) ∨ (i = 1 ∧ y' = 2 * y ∧ vInt (env.val 7) = 2 * x) ∨
   (i = 2 ∧ env.row 4 = doneK A x y y' ∧ ∃ c : Int, vInt (env.val 9) = c ∧ (2 * c = ((doneK A x y y').length : Nat))) ∨
   (i = 3 ∧ ∃ x', vInt (env.val 7) = x' ∧ 2 * x ≤ x' ∧ x' ≤ min A (2 * x + 2) ∧ y' < min B (2 * y + 2) ∧ env.row 4 = doneK A x y y' ++ partK x x' y' ∧ ∃ c : Int, vInt (env.val 9) = c ∧ (2 * c = ((doneK A x y y' ++ partK x x' y').length : Nat))))

end Go.Proofs.Ytagahpfinaaemaa
