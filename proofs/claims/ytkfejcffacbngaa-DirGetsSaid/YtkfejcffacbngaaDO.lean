import Derived.Test.YtkfejcffacbngaaDN

namespace Go.Proofs.Ytkfejcffacbngaa

open Go Go.Sym

set_option linter.unusedVariables false

def g77 : List (List Int) → List Int
  | [b] => encB (decide (bytesOk b))
  | _ => []

def g78 : List (List Int) → List Int
  | [b, [a], [n]] => encB (decide (bytesOk b ∧ (n = 2 ∨ n = 4)))
  | _ => []

def g79 : List (List Int) → List Int
  | [a, b] => encB (decide (a = b))
  | _ => []

def FNh : Nat → List (List Int) → List Int
  | 77, l => g77 l
  | 78, l => g78 l
  | 79, l => g79 l
  | i, l => FNf i l

def pcGotR : Pc := ⟨132, [.sl [.u8], .int .i64, .int .i64], [.int .u64, .int .i64, .int .i64], 64, [(0, 0, 4294967296)], [78]⟩

def pcSameE : Pc := ⟨44, [.sl C2, .sl C2], [.bool], 79, [(0, 0, 1048576)], []⟩

def pcGetR : Pc := ⟨43, [.sl [.u8]], [.int .i64, .int .i64, .sl 50 C2, .int .i64], 70, [(0, 0, 4294967296)], [77]⟩

abbrev cutGotR : Cuts := [([0, 1, 0, 1, 1, 1, 1], ⟨53, [(0, bR), (1, .sint .i64 (.var 1)), (2, .sint .i64 (.var 2)), (6, .int .u64 0), (7, .int .i64 0), (8, .int .i64 0), (9, .sint .u64 (.var 3)), (10, .sint .i64 (.var 4))], [], 0, asB⟩)]

abbrev cutSameE : List Nat × Tp := ([0, 1, 0, 1, 1], ⟨26, [(0, .rsl (.ro 0 C2) (.lit 0) (.rlen (.rvar 0) 2) 2), (1, .rsl (.ro 1 C2) (.lit 0) (.rlen (.rvar 1) 2) 2), (5, .sint .i64 (.var 2))], [], 0, [(.cmp .eql (.rlen (.rvar 0) 2) (.rlen (.rvar 1) 2), true), (nonneg (.var 2), true)]⟩)

theorem gotR_entry : entryK Try.prog [] 50 400 132 cutGotR 3 (argSVs 0 pcGotR.aks) 8 asB = some [([(.cmp .lss (.var 2) (.lit 1), true), (.not (.cmp .lss (.lit 4294967296) (.rlen (.rvar 0) 1)), true)], .ret (.tuple [.int .u64 0, .int .i64 0, .int .i64 11]) ⟨0, .nil⟩), ([(.cmp .lss (.lit 8) (.var 2), true), (.cmp .lss (.var 2) (.lit 1), false), (.not (.cmp .lss (.lit 4294967296) (.rlen (.rvar 0) 1)), true)], .ret (.tuple [.int .u64 0, .int .i64 0, .int .i64 11]) ⟨0, .nil⟩), ([(.cmp .lss (.var 1) (.lit 0), true), (.cmp .lss (.lit 8) (.var 2), false), (.cmp .lss (.var 2) (.lit 1), false), (.not (.cmp .lss (.lit 4294967296) (.rlen (.rvar 0) 1)), true)], .ret (.tuple [.int .u64 0, .int .i64 0, .int .i64 11]) ⟨0, .nil⟩), ([(.cmp .lss (.rlen (.rvar 0) 1) (.var 1), true), (.cmp .lss (.var 1) (.lit 0), false), (.cmp .lss (.lit 8) (.var 2), false), (.cmp .lss (.var 2) (.lit 1), false), (.not (.cmp .lss (.lit 4294967296) (.rlen (.rvar 0) 1)), true)], .ret (.tuple [.int .u64 0, .int .i64 0, .int .i64 11]) ⟨0, .nil⟩), ([(.cmp .lss (.bin .sub .i64 (.rlen (.rvar 0) 1) (.var 1)) (.var 2), true), (.cmp .lss (.rlen (.rvar 0) 1) (.var 1), false), (.cmp .lss (.var 1) (.lit 0), false), (.cmp .lss (.lit 8) (.var 2), false), (.cmp .lss (.var 2) (.lit 1), false), (.not (.cmp .lss (.lit 4294967296) (.rlen (.rvar 0) 1)), true)], .ret (.tuple [.int .u64 0, .int .i64 0, .int .i64 14]) ⟨0, .nil⟩), ([(.cmp .lss (.bin .sub .i64 (.rlen (.rvar 0) 1) (.var 1)) (.var 2), false), (.cmp .lss (.rlen (.rvar 0) 1) (.var 1), false), (.cmp .lss (.var 1) (.lit 0), false), (.cmp .lss (.lit 8) (.var 2), false), (.cmp .lss (.var 2) (.lit 1), false), (.not (.cmp .lss (.lit 4294967296) (.rlen (.rvar 0) 1)), true)], .cut 0 ⟨[(4, .bin .sub .i64 (.var 2) (.lit 1)), (3, .lit 0)], [], [], []⟩)] := by kernel_rfl

theorem gotR_rounds : roundsK Try.prog [] 50 400 132 cutGotR 3 8 cutGotR = some [[([(.cmp .lss (.var 4) (.lit 0), true), (.not (.cmp .lss (.lit 4294967296) (.rlen (.rvar 0) 1)), true)], .ret (.tuple [.sint .u64 (.var 3), .sint .i64 (.bin .add .i64 (.var 1) (.var 2)), .int .i64 0]) ⟨0, .nil⟩), ([(.cmp .lss (.bin .add .i64 (.var 1) (.var 4)) (.lit 0), true), (.cmp .lss (.var 4) (.lit 0), false), (.not (.cmp .lss (.lit 4294967296) (.rlen (.rvar 0) 1)), true)], .bad), ([(.cmp .lss (.bin .add .i64 (.var 1) (.var 4)) (.rlen (.rvar 0) 1), true), (.cmp .lss (.bin .add .i64 (.var 1) (.var 4)) (.lit 0), false), (.cmp .lss (.var 4) (.lit 0), false), (.not (.cmp .lss (.lit 4294967296) (.rlen (.rvar 0) 1)), true)], .cut 0 ⟨[(4, .bin .sub .i64 (.var 4) (.lit 1)), (3, .bin .add .u64 (.bin .mul .u64 (.var 3) (.lit 256)) (.wrap .u64 (.sel (.rvar 0) (.bin .add .i64 (.var 1) (.var 4)) 1 0)))], [], [], []⟩), ([(.cmp .lss (.bin .add .i64 (.var 1) (.var 4)) (.rlen (.rvar 0) 1), false), (.cmp .lss (.bin .add .i64 (.var 1) (.var 4)) (.lit 0), false), (.cmp .lss (.var 4) (.lit 0), false), (.not (.cmp .lss (.lit 4294967296) (.rlen (.rvar 0) 1)), true)], .bad)]] := by kernel_rfl

theorem sameE_entry : entryK Try.prog [] 50 200 44 [cutSameE] 2 (argSVs 0 pcSameE.aks) 30 [] = some [([(.cmp .eql (.rlen (.rvar 0) 2) (.rlen (.rvar 1) 2), true)], .cut 0 ⟨[(2, .lit 0)], [], [], []⟩), ([(.cmp .eql (.rlen (.rvar 0) 2) (.rlen (.rvar 1) 2), false)], .ret (.bool false) ⟨0, .nil⟩)] := by kernel_rfl

theorem sameE_rounds : roundsK Try.prog [] 50 200 44 [cutSameE] 2 30 [cutSameE] = some [[([(.req (.rcons (.sel (.rvar 0) (.var 2) 2 0) (.rcons (.sel (.rvar 0) (.var 2) 2 1) .rnil)) (.rcons (.sel (.rvar 1) (.var 2) 2 0) (.rcons (.sel (.rvar 1) (.var 2) 2 1) .rnil)), true), (.cmp .lss (.var 2) (.rlen (.rvar 0) 2), true), (.cmp .eql (.rlen (.rvar 0) 2) (.rlen (.rvar 1) 2), true), (.not (.cmp .lss (.var 2) (.lit 0)), true)], .cut 0 ⟨[(2, .bin .add .i64 (.var 2) (.lit 1))], [], [], []⟩), ([(.req (.rcons (.sel (.rvar 0) (.var 2) 2 0) (.rcons (.sel (.rvar 0) (.var 2) 2 1) .rnil)) (.rcons (.sel (.rvar 1) (.var 2) 2 0) (.rcons (.sel (.rvar 1) (.var 2) 2 1) .rnil)), false), (.cmp .lss (.var 2) (.rlen (.rvar 0) 2), true), (.cmp .eql (.rlen (.rvar 0) 2) (.rlen (.rvar 1) 2), true), (.not (.cmp .lss (.var 2) (.lit 0)), true)], .ret (.bool false) ⟨0, .nil⟩), ([(.cmp .lss (.var 2) (.rlen (.rvar 0) 2), false), (.cmp .eql (.rlen (.rvar 0) 2) (.rlen (.rvar 1) 2), true), (.not (.cmp .lss (.var 2) (.lit 0)), true)], .ret (.bool true) ⟨0, .nil⟩)]] := by kernel_rfl

end Go.Proofs.Ytkfejcffacbngaa
