import Derived.Test.YtkfejcffacbngaaDE

namespace Go.Proofs.Ytkfejcffacbngaa

open Go Go.Sym

set_option linter.unusedVariables false

def bitU (acc c : Int) (k : Nat) : Int := binI .or .u64 acc (binI .shl .u64 (IntKind.u64.wrap c) (binI .mul .i64 8 (k : Int)))

def numU (b : List Int) (a : Int) : Nat → Int
  | 0 => 0
  | k + 1 => bitU (numU b a k) (selL b (a + k) 1 0) k

def gotC (b : List Int) (a n : Int) : Int := if 1 ≤ n ∧ n ≤ 8 ∧ 0 ≤ a ∧ a ≤ (b.length : Int) then (if (b.length : Int) - a < n then 14 else 0) else 11

def g64 : List (List Int) → List Int
  | [b, [a], [n]] => [if gotC b a n = 0 then numU b a n.toNat else 0]
  | _ => []

def g65 : List (List Int) → List Int
  | [b, [a], [n]] => [if gotC b a n = 0 then a + n else 0]
  | _ => []

def g66 : List (List Int) → List Int
  | [b, [a], [n]] => [gotC b a n]
  | _ => []

def FNe : Nat → List (List Int) → List Int
  | 64, l => g64 l
  | 65, l => g65 l
  | 66, l => g66 l
  | i, l => FNd i l

def pcGot : Pc := ⟨131, [.sl [.u8], .int .i64, .int .i64], [.int .u64, .int .i64, .int .i64], 64, [(0, 0, 4294967296)], []⟩

abbrev bR : SV := .rsl (.ro 0 [.u8]) (.lit 0) (.rlen (.rvar 0) 1) 1

abbrev asB : As := [(atmB (.rlen (.rvar 0) 1) (.lit 4294967296), true)]

abbrev endE : IE := .bin .add .i64 (.var 1) (.var 2)

abbrev cutGot : Cuts := [([0, 1, 0, 1, 1, 1, 1], ⟨58, [(0, bR), (1, .sint .i64 (.var 1)), (2, .sint .i64 (.var 2)), (6, .int .u64 0), (7, .int .i64 0), (8, .int .i64 0), (9, .sint .u64 (.var 3)), (39, .rsl (.ro 0 [.u8]) (.var 1) (.minus endE (.var 1)) 1), (40, .sint .i64 (.minus endE (.var 1))), (41, .sint .i64 (.var 4))], [], 0, [(nonneg (.var 4), true), (nonneg (.var 1), true), (atmB endE (.rlen (.rvar 0) 1), true), (atmB (.var 1) endE, true)]⟩)]

theorem got_entry : entryK Try.prog [] 50 400 131 cutGot 3 (argSVs 0 pcGot.aks) 8 asB = some [([(.cmp .lss (.var 2) (.lit 1), true), (.not (.cmp .lss (.lit 4294967296) (.rlen (.rvar 0) 1)), true)], .ret (.tuple [.int .u64 0, .int .i64 0, .int .i64 11]) ⟨0, .nil⟩), ([(.cmp .lss (.lit 8) (.var 2), true), (.cmp .lss (.var 2) (.lit 1), false), (.not (.cmp .lss (.lit 4294967296) (.rlen (.rvar 0) 1)), true)], .ret (.tuple [.int .u64 0, .int .i64 0, .int .i64 11]) ⟨0, .nil⟩), ([(.cmp .lss (.var 1) (.lit 0), true), (.cmp .lss (.lit 8) (.var 2), false), (.cmp .lss (.var 2) (.lit 1), false), (.not (.cmp .lss (.lit 4294967296) (.rlen (.rvar 0) 1)), true)], .ret (.tuple [.int .u64 0, .int .i64 0, .int .i64 11]) ⟨0, .nil⟩), ([(.cmp .lss (.rlen (.rvar 0) 1) (.var 1), true), (.cmp .lss (.var 1) (.lit 0), false), (.cmp .lss (.lit 8) (.var 2), false), (.cmp .lss (.var 2) (.lit 1), false), (.not (.cmp .lss (.lit 4294967296) (.rlen (.rvar 0) 1)), true)], .ret (.tuple [.int .u64 0, .int .i64 0, .int .i64 11]) ⟨0, .nil⟩), ([(.cmp .lss (.bin .sub .i64 (.rlen (.rvar 0) 1) (.var 1)) (.var 2), true), (.cmp .lss (.rlen (.rvar 0) 1) (.var 1), false), (.cmp .lss (.var 1) (.lit 0), false), (.cmp .lss (.lit 8) (.var 2), false), (.cmp .lss (.var 2) (.lit 1), false), (.not (.cmp .lss (.lit 4294967296) (.rlen (.rvar 0) 1)), true)], .ret (.tuple [.int .u64 0, .int .i64 0, .int .i64 14]) ⟨0, .nil⟩), ([(.cmp .lss (.bin .add .i64 (.var 1) (.var 2)) (.var 1), true), (.cmp .lss (.bin .sub .i64 (.rlen (.rvar 0) 1) (.var 1)) (.var 2), false), (.cmp .lss (.rlen (.rvar 0) 1) (.var 1), false), (.cmp .lss (.var 1) (.lit 0), false), (.cmp .lss (.lit 8) (.var 2), false), (.cmp .lss (.var 2) (.lit 1), false), (.not (.cmp .lss (.lit 4294967296) (.rlen (.rvar 0) 1)), true)], .bad), ([(.cmp .lss (.rlen (.rvar 0) 1) (.bin .add .i64 (.var 1) (.var 2)), true), (.cmp .lss (.bin .add .i64 (.var 1) (.var 2)) (.var 1), false), (.cmp .lss (.bin .sub .i64 (.rlen (.rvar 0) 1) (.var 1)) (.var 2), false), (.cmp .lss (.rlen (.rvar 0) 1) (.var 1), false), (.cmp .lss (.var 1) (.lit 0), false), (.cmp .lss (.lit 8) (.var 2), false), (.cmp .lss (.var 2) (.lit 1), false), (.not (.cmp .lss (.lit 4294967296) (.rlen (.rvar 0) 1)), true)], .bad), ([(.cmp .lss (.rlen (.rvar 0) 1) (.bin .add .i64 (.var 1) (.var 2)), false), (.cmp .lss (.bin .add .i64 (.var 1) (.var 2)) (.var 1), false), (.cmp .lss (.bin .sub .i64 (.rlen (.rvar 0) 1) (.var 1)) (.var 2), false), (.cmp .lss (.rlen (.rvar 0) 1) (.var 1), false), (.cmp .lss (.var 1) (.lit 0), false), (.cmp .lss (.lit 8) (.var 2), false), (.cmp .lss (.var 2) (.lit 1), false), (.not (.cmp .lss (.lit 4294967296) (.rlen (.rvar 0) 1)), true)], .cut 0 ⟨[(4, .lit 0), (3, .lit 0)], [], [], []⟩)] := by kernel_rfl

theorem got_rounds : roundsK Try.prog [] 50 400 131 cutGot 3 8 cutGot = some [[([(.cmp .lss (.bin .mul .i64 (.lit 8) (.var 4)) (.lit 0), true), (.cmp .lss (.plus (.var 1) (.var 4)) (.rlen (.rvar 0) 1), true), (.cmp .lss (.var 4) (.minus (.bin .add .i64 (.var 1) (.var 2)) (.var 1)), true), (.not (.cmp .lss (.var 4) (.lit 0)), true), (.not (.cmp .lss (.var 1) (.lit 0)), true), (.not (.cmp .lss (.rlen (.rvar 0) 1) (.bin .add .i64 (.var 1) (.var 2))), true), (.not (.cmp .lss (.bin .add .i64 (.var 1) (.var 2)) (.var 1)), true)], .bad), ([(.cmp .lss (.bin .mul .i64 (.lit 8) (.var 4)) (.lit 0), false), (.cmp .lss (.plus (.var 1) (.var 4)) (.rlen (.rvar 0) 1), true), (.cmp .lss (.var 4) (.minus (.bin .add .i64 (.var 1) (.var 2)) (.var 1)), true), (.not (.cmp .lss (.var 4) (.lit 0)), true), (.not (.cmp .lss (.var 1) (.lit 0)), true), (.not (.cmp .lss (.rlen (.rvar 0) 1) (.bin .add .i64 (.var 1) (.var 2))), true), (.not (.cmp .lss (.bin .add .i64 (.var 1) (.var 2)) (.var 1)), true)], .cut 0 ⟨[(4, .bin .add .i64 (.var 4) (.lit 1)), (3, .bin .or .u64 (.var 3) (.bin .shl .u64 (.wrap .u64 (.sel (.rvar 0) (.plus (.var 1) (.var 4)) 1 0)) (.bin .mul .i64 (.lit 8) (.var 4))))], [], [], []⟩), ([(.cmp .lss (.plus (.var 1) (.var 4)) (.rlen (.rvar 0) 1), false), (.cmp .lss (.var 4) (.minus (.bin .add .i64 (.var 1) (.var 2)) (.var 1)), true), (.not (.cmp .lss (.var 4) (.lit 0)), true), (.not (.cmp .lss (.var 1) (.lit 0)), true), (.not (.cmp .lss (.rlen (.rvar 0) 1) (.bin .add .i64 (.var 1) (.var 2))), true), (.not (.cmp .lss (.bin .add .i64 (.var 1) (.var 2)) (.var 1)), true)], .bad), ([(.cmp .lss (.var 4) (.minus (.bin .add .i64 (.var 1) (.var 2)) (.var 1)), false), (.not (.cmp .lss (.var 4) (.lit 0)), true), (.not (.cmp .lss (.var 1) (.lit 0)), true), (.not (.cmp .lss (.rlen (.rvar 0) 1) (.bin .add .i64 (.var 1) (.var 2))), true), (.not (.cmp .lss (.bin .add .i64 (.var 1) (.var 2)) (.var 1)), true)], .ret (.tuple [.sint .u64 (.var 3), .sint .i64 (.bin .add .i64 (.var 1) (.var 2)), .int .i64 0]) ⟨0, .nil⟩)]] := by kernel_rfl

end Go.Proofs.Ytkfejcffacbngaa
