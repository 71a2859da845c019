import Derived.Test.YtkfejcffacbngaaRK

namespace Go.Proofs.Ytkfejcffacbngaa.J

open Go Go.Sym

set_option linter.unusedVariables false

def g105 : List (List Int) → List Int
  | [zs] => putS (runsL zs)
  | _ => []

def FNs : Nat → List (List Int) → List Int
  | 105, l => g105 l
  | i, l => FNr i l

theorem FNs_105 (zs : List Int) : FNs 105 [zs] = putS (runsL zs) := rfl
theorem FNs_100 (x : Int) : FNs 100 [[x]] = [foldM x] := rfl
theorem FNs_82 (u : Int) : FNs 82 [[u]] = lebN 10 u := rfl

def pcBytes : Pc := ⟨21, [.sl [.i64]], [.sl 5 [.u8]], 105, [(0, 0, 1000000)], []⟩

abbrev lB : IE := .rlen (.rvar 0) 1
abbrev x0E : IE := .app 100 (.acons (.rcons (.sel (.rvar 0) (.lit 0) 1 0) .rnil) .anil)
abbrev xiE : IE := .app 100 (.acons (.rcons (.sel (.rvar 0) (.var 1) 1 0) .rnil) .anil)
abbrev ukE : IE := .wrap .u64 (.bin .sub .i64 (.var 4) (.lit 1))
abbrev rowE (u : IE) : IE := .rapp 82 (.acons (.rcons u .rnil) .anil)
abbrev im1 : IE := .bin .sub .i64 (.var 1) (.lit 1)
abbrev ipk : IE := .bin .add .i64 (.var 1) (.var 4)
abbrev inU (u : IE) : As := [ltR u (.lit 0) false, ltR (.lit 18446744073709551615) u false, ltR (.lit 0) (.rlen (rowE u) 1) true]
abbrev lim : BE × Bool := (atmB lB (.lit 1000000), true)
abbrev blk0 : Nat × Blk := (0, ⟨5, 0, [], .nil, false, none⟩)
abbrev blkR : Nat × Blk := (0, ⟨5, 0, [], .nil, true, some (.rvar 2, .var 3, [.u8])⟩)
abbrev cntB : As := [(nonneg (.var 3), true), (atmB (.var 3) (.lit 30000000), true)]
abbrev sl0 : Nat × SV := (0, .rsl (.ro 0 [.i64]) (.lit 0) lB 1)
abbrev outR : Nat × SV := (3, .rsl (.own 0) (.lit 0) (.var 3) 1)

abbrev pO : List Nat := [0, 1, 0, 1, 1]
abbrev pN : List Nat := [0, 0, 1, 1, 1, 0, 0, 1, 0, 0, 1, 0, 1, 1]

abbrev cutB : Cuts := [
  (pO, ⟨63, [sl0, (2, .nilslice), (3, .slice 0 0 0 0), (4, .int .i64 0)], [blk0], 1, [lim] ++ inU x0E⟩),
  (pO, ⟨63, [sl0, (2, .nilslice), outR, (4, .sint .i64 (.var 1))], [blkR], 1, [lim, ltR (.lit 0) (.var 1) true, (atmB (.var 1) lB, true), ltR im1 (.lit 0) false, ltR im1 lB true, ltR (.var 1) (.lit 0) false] ++ inU xiE ++ cntB ++ [ltR (.lit 140737488355328) (.plus (.var 3) (.rlen (rowE xiE) 1)) false]⟩),
  (pN, ⟨63, [sl0, (2, .nilslice), (3, .slice 0 0 0 0), (4, .int .i64 0), (5, .sint .i64 (.var 4))], [blk0], 1, [lim, (nonneg (.var 4), true), (atmB (.var 4) lB, true), ltR (.bin .add .i64 (.lit 0) (.var 4)) (.lit 0) false] ++ inU ukE ++ [ltR (.lit 140737488355328) (.plus (.lit 1) (.rlen (rowE ukE) 1)) false]⟩),
  (pN, ⟨63, [sl0, (2, .nilslice), outR, (4, .sint .i64 (.var 1)), (5, .sint .i64 (.var 4))], [blkR], 1, [lim, ltR (.lit 0) (.var 1) true, (nonneg (.var 4), true), (atmB (.var 1) lB, true), ltR ipk (.lit 0) false] ++ inU ukE ++ cntB ++ [ltR (.lit 140737488355328) (.plus (.plus (.var 3) (.lit 1)) (.rlen (rowE ukE) 1)) false]⟩)]

abbrev knB : Kn := [pcRfB.ct, pcFoldR.ct]

theorem bytes_entry : entryK Try.prog knB 1 400 21 cutB 1 (argSVs 0 pcBytes.aks) 12 [] = some [([], .cut 0 ⟨[], [], [], [(0, 0)]⟩)] := by kernel_rfl

theorem bytes_rounds : roundsK Try.prog knB 1 400 21 cutB 1 12 cutB = some [[([(.cmp .eql (.sel (.rvar 0) (.lit 0) 1 0) (.lit 0), true), (.cmp .lss (.lit 0) (.rlen (.rvar 0) 1), true), (.not (.cmp .lss (.lit 1000000) (.rlen (.rvar 0) 1)), true), (.cmp .lss (.app 100 (.acons (.rcons (.sel (.rvar 0) (.lit 0) 1 0) .rnil) .anil)) (.lit 0), false), (.cmp .lss (.lit 18446744073709551615) (.app 100 (.acons (.rcons (.sel (.rvar 0) (.lit 0) 1 0) .rnil) .anil)), false), (.cmp .lss (.lit 0) (.rlen (.rapp 82 (.acons (.rcons (.app 100 (.acons (.rcons (.sel (.rvar 0) (.lit 0) 1 0) .rnil) .anil)) .rnil) .anil)) 1), true)], .cut 2 ⟨[(4, .lit 0)], [], [], [(0, 0)]⟩), ([(.cmp .lss (.lit 140737488355328) (.rlen (.rapp 82 (.acons (.rcons (.app 100 (.acons (.rcons (.sel (.rvar 0) (.lit 0) 1 0) .rnil) .anil)) .rnil) .anil)) 1), true), (.cmp .eql (.sel (.rvar 0) (.lit 0) 1 0) (.lit 0), false), (.cmp .lss (.lit 0) (.rlen (.rvar 0) 1), true), (.not (.cmp .lss (.lit 1000000) (.rlen (.rvar 0) 1)), true), (.cmp .lss (.app 100 (.acons (.rcons (.sel (.rvar 0) (.lit 0) 1 0) .rnil) .anil)) (.lit 0), false), (.cmp .lss (.lit 18446744073709551615) (.app 100 (.acons (.rcons (.sel (.rvar 0) (.lit 0) 1 0) .rnil) .anil)), false), (.cmp .lss (.lit 0) (.rlen (.rapp 82 (.acons (.rcons (.app 100 (.acons (.rcons (.sel (.rvar 0) (.lit 0) 1 0) .rnil) .anil)) .rnil) .anil)) 1), true)], .bad), ([(.cmp .lss (.lit 140737488355328) (.rlen (.rapp 82 (.acons (.rcons (.app 100 (.acons (.rcons (.sel (.rvar 0) (.lit 0) 1 0) .rnil) .anil)) .rnil) .anil)) 1), false), (.cmp .eql (.sel (.rvar 0) (.lit 0) 1 0) (.lit 0), false), (.cmp .lss (.lit 0) (.rlen (.rvar 0) 1), true), (.not (.cmp .lss (.lit 1000000) (.rlen (.rvar 0) 1)), true), (.cmp .lss (.app 100 (.acons (.rcons (.sel (.rvar 0) (.lit 0) 1 0) .rnil) .anil)) (.lit 0), false), (.cmp .lss (.lit 18446744073709551615) (.app 100 (.acons (.rcons (.sel (.rvar 0) (.lit 0) 1 0) .rnil) .anil)), false), (.cmp .lss (.lit 0) (.rlen (.rapp 82 (.acons (.rcons (.app 100 (.acons (.rcons (.sel (.rvar 0) (.lit 0) 1 0) .rnil) .anil)) .rnil) .anil)) 1), true)], .cut 1 ⟨[(1, .lit 1), (3, .rlen (.rapp 82 (.acons (.rcons (.app 100 (.acons (.rcons (.sel (.rvar 0) (.lit 0) 1 0) .rnil) .anil)) .rnil) .anil)) 1)], [(2, .cat .rnil (.rapp 82 (.acons (.rcons (.app 100 (.acons (.rcons (.sel (.rvar 0) (.lit 0) 1 0) .rnil) .anil)) .rnil) .anil)))], [], [(0, 2)]⟩), ([(.cmp .lss (.lit 0) (.rlen (.rvar 0) 1), false), (.not (.cmp .lss (.lit 1000000) (.rlen (.rvar 0) 1)), true), (.cmp .lss (.app 100 (.acons (.rcons (.sel (.rvar 0) (.lit 0) 1 0) .rnil) .anil)) (.lit 0), false), (.cmp .lss (.lit 18446744073709551615) (.app 100 (.acons (.rcons (.sel (.rvar 0) (.lit 0) 1 0) .rnil) .anil)), false), (.cmp .lss (.lit 0) (.rlen (.rapp 82 (.acons (.rcons (.app 100 (.acons (.rcons (.sel (.rvar 0) (.lit 0) 1 0) .rnil) .anil)) .rnil) .anil)) 1), true)], .ret (.slice 0 0 0 0) ⟨1, (.node (some ⟨5, 0, [], .nil, false, none⟩) .nil .nil)⟩)], [([(.cmp .eql (.sel (.rvar 0) (.bin .sub .i64 (.var 1) (.lit 1)) 1 0) (.lit 0), true), (.cmp .eql (.sel (.rvar 0) (.var 1) 1 0) (.lit 0), true), (.cmp .lss (.var 1) (.rlen (.rvar 0) 1), true), (.not (.cmp .lss (.lit 1000000) (.rlen (.rvar 0) 1)), true), (.cmp .lss (.lit 0) (.var 1), true), (.not (.cmp .lss (.rlen (.rvar 0) 1) (.var 1)), true), (.cmp .lss (.bin .sub .i64 (.var 1) (.lit 1)) (.lit 0), false), (.cmp .lss (.bin .sub .i64 (.var 1) (.lit 1)) (.rlen (.rvar 0) 1), true), (.cmp .lss (.var 1) (.lit 0), false), (.cmp .lss (.app 100 (.acons (.rcons (.sel (.rvar 0) (.var 1) 1 0) .rnil) .anil)) (.lit 0), false), (.cmp .lss (.lit 18446744073709551615) (.app 100 (.acons (.rcons (.sel (.rvar 0) (.var 1) 1 0) .rnil) .anil)), false), (.cmp .lss (.lit 0) (.rlen (.rapp 82 (.acons (.rcons (.app 100 (.acons (.rcons (.sel (.rvar 0) (.var 1) 1 0) .rnil) .anil)) .rnil) .anil)) 1), true), (.not (.cmp .lss (.var 3) (.lit 0)), true), (.not (.cmp .lss (.lit 30000000) (.var 3)), true), (.cmp .lss (.lit 140737488355328) (.plus (.var 3) (.rlen (.rapp 82 (.acons (.rcons (.app 100 (.acons (.rcons (.sel (.rvar 0) (.var 1) 1 0) .rnil) .anil)) .rnil) .anil)) 1)), false)], .cut 1 ⟨[(1, .bin .add .i64 (.var 1) (.lit 1)), (3, .var 3)], [(2, .rvar 2)], [], [(0, 0)]⟩), ([(.cmp .eql (.sel (.rvar 0) (.bin .sub .i64 (.var 1) (.lit 1)) 1 0) (.lit 0), false), (.cmp .eql (.sel (.rvar 0) (.var 1) 1 0) (.lit 0), true), (.cmp .lss (.var 1) (.rlen (.rvar 0) 1), true), (.not (.cmp .lss (.lit 1000000) (.rlen (.rvar 0) 1)), true), (.cmp .lss (.lit 0) (.var 1), true), (.not (.cmp .lss (.rlen (.rvar 0) 1) (.var 1)), true), (.cmp .lss (.bin .sub .i64 (.var 1) (.lit 1)) (.lit 0), false), (.cmp .lss (.bin .sub .i64 (.var 1) (.lit 1)) (.rlen (.rvar 0) 1), true), (.cmp .lss (.var 1) (.lit 0), false), (.cmp .lss (.app 100 (.acons (.rcons (.sel (.rvar 0) (.var 1) 1 0) .rnil) .anil)) (.lit 0), false), (.cmp .lss (.lit 18446744073709551615) (.app 100 (.acons (.rcons (.sel (.rvar 0) (.var 1) 1 0) .rnil) .anil)), false), (.cmp .lss (.lit 0) (.rlen (.rapp 82 (.acons (.rcons (.app 100 (.acons (.rcons (.sel (.rvar 0) (.var 1) 1 0) .rnil) .anil)) .rnil) .anil)) 1), true), (.not (.cmp .lss (.var 3) (.lit 0)), true), (.not (.cmp .lss (.lit 30000000) (.var 3)), true), (.cmp .lss (.lit 140737488355328) (.plus (.var 3) (.rlen (.rapp 82 (.acons (.rcons (.app 100 (.acons (.rcons (.sel (.rvar 0) (.var 1) 1 0) .rnil) .anil)) .rnil) .anil)) 1)), false)], .cut 3 ⟨[(4, .lit 0), (1, .var 1), (3, .var 3)], [(2, .rvar 2)], [], [(0, 0)]⟩), ([(.cmp .eql (.sel (.rvar 0) (.var 1) 1 0) (.lit 0), false), (.cmp .lss (.var 1) (.rlen (.rvar 0) 1), true), (.not (.cmp .lss (.lit 1000000) (.rlen (.rvar 0) 1)), true), (.cmp .lss (.lit 0) (.var 1), true), (.not (.cmp .lss (.rlen (.rvar 0) 1) (.var 1)), true), (.cmp .lss (.bin .sub .i64 (.var 1) (.lit 1)) (.lit 0), false), (.cmp .lss (.bin .sub .i64 (.var 1) (.lit 1)) (.rlen (.rvar 0) 1), true), (.cmp .lss (.var 1) (.lit 0), false), (.cmp .lss (.app 100 (.acons (.rcons (.sel (.rvar 0) (.var 1) 1 0) .rnil) .anil)) (.lit 0), false), (.cmp .lss (.lit 18446744073709551615) (.app 100 (.acons (.rcons (.sel (.rvar 0) (.var 1) 1 0) .rnil) .anil)), false), (.cmp .lss (.lit 0) (.rlen (.rapp 82 (.acons (.rcons (.app 100 (.acons (.rcons (.sel (.rvar 0) (.var 1) 1 0) .rnil) .anil)) .rnil) .anil)) 1), true), (.not (.cmp .lss (.var 3) (.lit 0)), true), (.not (.cmp .lss (.lit 30000000) (.var 3)), true), (.cmp .lss (.lit 140737488355328) (.plus (.var 3) (.rlen (.rapp 82 (.acons (.rcons (.app 100 (.acons (.rcons (.sel (.rvar 0) (.var 1) 1 0) .rnil) .anil)) .rnil) .anil)) 1)), false)], .cut 1 ⟨[(1, .bin .add .i64 (.var 1) (.lit 1)), (3, .plus (.var 3) (.rlen (.rapp 82 (.acons (.rcons (.app 100 (.acons (.rcons (.sel (.rvar 0) (.var 1) 1 0) .rnil) .anil)) .rnil) .anil)) 1))], [(2, .cat (.rvar 2) (.rapp 82 (.acons (.rcons (.app 100 (.acons (.rcons (.sel (.rvar 0) (.var 1) 1 0) .rnil) .anil)) .rnil) .anil)))], [], [(0, 2)]⟩), ([(.cmp .lss (.var 1) (.rlen (.rvar 0) 1), false), (.not (.cmp .lss (.lit 1000000) (.rlen (.rvar 0) 1)), true), (.cmp .lss (.lit 0) (.var 1), true), (.not (.cmp .lss (.rlen (.rvar 0) 1) (.var 1)), true), (.cmp .lss (.bin .sub .i64 (.var 1) (.lit 1)) (.lit 0), false), (.cmp .lss (.bin .sub .i64 (.var 1) (.lit 1)) (.rlen (.rvar 0) 1), true), (.cmp .lss (.var 1) (.lit 0), false), (.cmp .lss (.app 100 (.acons (.rcons (.sel (.rvar 0) (.var 1) 1 0) .rnil) .anil)) (.lit 0), false), (.cmp .lss (.lit 18446744073709551615) (.app 100 (.acons (.rcons (.sel (.rvar 0) (.var 1) 1 0) .rnil) .anil)), false), (.cmp .lss (.lit 0) (.rlen (.rapp 82 (.acons (.rcons (.app 100 (.acons (.rcons (.sel (.rvar 0) (.var 1) 1 0) .rnil) .anil)) .rnil) .anil)) 1), true), (.not (.cmp .lss (.var 3) (.lit 0)), true), (.not (.cmp .lss (.lit 30000000) (.var 3)), true), (.cmp .lss (.lit 140737488355328) (.plus (.var 3) (.rlen (.rapp 82 (.acons (.rcons (.app 100 (.acons (.rcons (.sel (.rvar 0) (.var 1) 1 0) .rnil) .anil)) .rnil) .anil)) 1)), false)], .ret (.rsl (.own 0) (.lit 0) (.var 3) 1) ⟨1, (.node (some ⟨5, 0, [], .nil, true, (some (.rvar 2, (.var 3, [.u8])))⟩) .nil .nil)⟩)], [([(.cmp .eql (.sel (.rvar 0) (.bin .add .i64 (.lit 0) (.var 4)) 1 0) (.lit 0), true), (.cmp .lss (.bin .add .i64 (.lit 0) (.var 4)) (.rlen (.rvar 0) 1), true), (.not (.cmp .lss (.lit 1000000) (.rlen (.rvar 0) 1)), true), (.not (.cmp .lss (.var 4) (.lit 0)), true), (.not (.cmp .lss (.rlen (.rvar 0) 1) (.var 4)), true), (.cmp .lss (.bin .add .i64 (.lit 0) (.var 4)) (.lit 0), false), (.cmp .lss (.wrap .u64 (.bin .sub .i64 (.var 4) (.lit 1))) (.lit 0), false), (.cmp .lss (.lit 18446744073709551615) (.wrap .u64 (.bin .sub .i64 (.var 4) (.lit 1))), false), (.cmp .lss (.lit 0) (.rlen (.rapp 82 (.acons (.rcons (.wrap .u64 (.bin .sub .i64 (.var 4) (.lit 1))) .rnil) .anil)) 1), true), (.cmp .lss (.lit 140737488355328) (.plus (.lit 1) (.rlen (.rapp 82 (.acons (.rcons (.wrap .u64 (.bin .sub .i64 (.var 4) (.lit 1))) .rnil) .anil)) 1)), false)], .cut 2 ⟨[(4, .bin .add .i64 (.var 4) (.lit 1))], [], [], [(0, 0)]⟩), ([(.cmp .eql (.sel (.rvar 0) (.bin .add .i64 (.lit 0) (.var 4)) 1 0) (.lit 0), false), (.cmp .lss (.bin .add .i64 (.lit 0) (.var 4)) (.rlen (.rvar 0) 1), true), (.not (.cmp .lss (.lit 1000000) (.rlen (.rvar 0) 1)), true), (.not (.cmp .lss (.var 4) (.lit 0)), true), (.not (.cmp .lss (.rlen (.rvar 0) 1) (.var 4)), true), (.cmp .lss (.bin .add .i64 (.lit 0) (.var 4)) (.lit 0), false), (.cmp .lss (.wrap .u64 (.bin .sub .i64 (.var 4) (.lit 1))) (.lit 0), false), (.cmp .lss (.lit 18446744073709551615) (.wrap .u64 (.bin .sub .i64 (.var 4) (.lit 1))), false), (.cmp .lss (.lit 0) (.rlen (.rapp 82 (.acons (.rcons (.wrap .u64 (.bin .sub .i64 (.var 4) (.lit 1))) .rnil) .anil)) 1), true), (.cmp .lss (.lit 140737488355328) (.plus (.lit 1) (.rlen (.rapp 82 (.acons (.rcons (.wrap .u64 (.bin .sub .i64 (.var 4) (.lit 1))) .rnil) .anil)) 1)), false)], .cut 1 ⟨[(1, .lit 1), (3, .plus (.lit 1) (.rlen (.rapp 82 (.acons (.rcons (.wrap .u64 (.bin .sub .i64 (.var 4) (.lit 1))) .rnil) .anil)) 1))], [(2, .cat (.rcons (.lit 0) .rnil) (.rapp 82 (.acons (.rcons (.wrap .u64 (.bin .sub .i64 (.var 4) (.lit 1))) .rnil) .anil)))], [], [(0, 4)]⟩), ([(.cmp .lss (.bin .add .i64 (.lit 0) (.var 4)) (.rlen (.rvar 0) 1), false), (.not (.cmp .lss (.lit 1000000) (.rlen (.rvar 0) 1)), true), (.not (.cmp .lss (.var 4) (.lit 0)), true), (.not (.cmp .lss (.rlen (.rvar 0) 1) (.var 4)), true), (.cmp .lss (.bin .add .i64 (.lit 0) (.var 4)) (.lit 0), false), (.cmp .lss (.wrap .u64 (.bin .sub .i64 (.var 4) (.lit 1))) (.lit 0), false), (.cmp .lss (.lit 18446744073709551615) (.wrap .u64 (.bin .sub .i64 (.var 4) (.lit 1))), false), (.cmp .lss (.lit 0) (.rlen (.rapp 82 (.acons (.rcons (.wrap .u64 (.bin .sub .i64 (.var 4) (.lit 1))) .rnil) .anil)) 1), true), (.cmp .lss (.lit 140737488355328) (.plus (.lit 1) (.rlen (.rapp 82 (.acons (.rcons (.wrap .u64 (.bin .sub .i64 (.var 4) (.lit 1))) .rnil) .anil)) 1)), false)], .cut 1 ⟨[(1, .lit 1), (3, .plus (.lit 1) (.rlen (.rapp 82 (.acons (.rcons (.wrap .u64 (.bin .sub .i64 (.var 4) (.lit 1))) .rnil) .anil)) 1))], [(2, .cat (.rcons (.lit 0) .rnil) (.rapp 82 (.acons (.rcons (.wrap .u64 (.bin .sub .i64 (.var 4) (.lit 1))) .rnil) .anil)))], [], [(0, 4)]⟩)], [([(.cmp .eql (.sel (.rvar 0) (.bin .add .i64 (.var 1) (.var 4)) 1 0) (.lit 0), true), (.cmp .lss (.bin .add .i64 (.var 1) (.var 4)) (.rlen (.rvar 0) 1), true), (.not (.cmp .lss (.lit 1000000) (.rlen (.rvar 0) 1)), true), (.cmp .lss (.lit 0) (.var 1), true), (.not (.cmp .lss (.var 4) (.lit 0)), true), (.not (.cmp .lss (.rlen (.rvar 0) 1) (.var 1)), true), (.cmp .lss (.bin .add .i64 (.var 1) (.var 4)) (.lit 0), false), (.cmp .lss (.wrap .u64 (.bin .sub .i64 (.var 4) (.lit 1))) (.lit 0), false), (.cmp .lss (.lit 18446744073709551615) (.wrap .u64 (.bin .sub .i64 (.var 4) (.lit 1))), false), (.cmp .lss (.lit 0) (.rlen (.rapp 82 (.acons (.rcons (.wrap .u64 (.bin .sub .i64 (.var 4) (.lit 1))) .rnil) .anil)) 1), true), (.not (.cmp .lss (.var 3) (.lit 0)), true), (.not (.cmp .lss (.lit 30000000) (.var 3)), true), (.cmp .lss (.lit 140737488355328) (.plus (.plus (.var 3) (.lit 1)) (.rlen (.rapp 82 (.acons (.rcons (.wrap .u64 (.bin .sub .i64 (.var 4) (.lit 1))) .rnil) .anil)) 1)), false)], .cut 3 ⟨[(4, .bin .add .i64 (.var 4) (.lit 1)), (1, .var 1), (3, .var 3)], [(2, .rvar 2)], [], [(0, 0)]⟩), ([(.cmp .eql (.sel (.rvar 0) (.bin .add .i64 (.var 1) (.var 4)) 1 0) (.lit 0), false), (.cmp .lss (.bin .add .i64 (.var 1) (.var 4)) (.rlen (.rvar 0) 1), true), (.not (.cmp .lss (.lit 1000000) (.rlen (.rvar 0) 1)), true), (.cmp .lss (.lit 0) (.var 1), true), (.not (.cmp .lss (.var 4) (.lit 0)), true), (.not (.cmp .lss (.rlen (.rvar 0) 1) (.var 1)), true), (.cmp .lss (.bin .add .i64 (.var 1) (.var 4)) (.lit 0), false), (.cmp .lss (.wrap .u64 (.bin .sub .i64 (.var 4) (.lit 1))) (.lit 0), false), (.cmp .lss (.lit 18446744073709551615) (.wrap .u64 (.bin .sub .i64 (.var 4) (.lit 1))), false), (.cmp .lss (.lit 0) (.rlen (.rapp 82 (.acons (.rcons (.wrap .u64 (.bin .sub .i64 (.var 4) (.lit 1))) .rnil) .anil)) 1), true), (.not (.cmp .lss (.var 3) (.lit 0)), true), (.not (.cmp .lss (.lit 30000000) (.var 3)), true), (.cmp .lss (.lit 140737488355328) (.plus (.plus (.var 3) (.lit 1)) (.rlen (.rapp 82 (.acons (.rcons (.wrap .u64 (.bin .sub .i64 (.var 4) (.lit 1))) .rnil) .anil)) 1)), false)], .cut 1 ⟨[(1, .bin .add .i64 (.var 1) (.lit 1)), (3, .plus (.plus (.var 3) (.lit 1)) (.rlen (.rapp 82 (.acons (.rcons (.wrap .u64 (.bin .sub .i64 (.var 4) (.lit 1))) .rnil) .anil)) 1))], [(2, .cat (.cat (.rvar 2) (.rcons (.lit 0) .rnil)) (.rapp 82 (.acons (.rcons (.wrap .u64 (.bin .sub .i64 (.var 4) (.lit 1))) .rnil) .anil)))], [], [(0, 4)]⟩), ([(.cmp .lss (.bin .add .i64 (.var 1) (.var 4)) (.rlen (.rvar 0) 1), false), (.not (.cmp .lss (.lit 1000000) (.rlen (.rvar 0) 1)), true), (.cmp .lss (.lit 0) (.var 1), true), (.not (.cmp .lss (.var 4) (.lit 0)), true), (.not (.cmp .lss (.rlen (.rvar 0) 1) (.var 1)), true), (.cmp .lss (.bin .add .i64 (.var 1) (.var 4)) (.lit 0), false), (.cmp .lss (.wrap .u64 (.bin .sub .i64 (.var 4) (.lit 1))) (.lit 0), false), (.cmp .lss (.lit 18446744073709551615) (.wrap .u64 (.bin .sub .i64 (.var 4) (.lit 1))), false), (.cmp .lss (.lit 0) (.rlen (.rapp 82 (.acons (.rcons (.wrap .u64 (.bin .sub .i64 (.var 4) (.lit 1))) .rnil) .anil)) 1), true), (.not (.cmp .lss (.var 3) (.lit 0)), true), (.not (.cmp .lss (.lit 30000000) (.var 3)), true), (.cmp .lss (.lit 140737488355328) (.plus (.plus (.var 3) (.lit 1)) (.rlen (.rapp 82 (.acons (.rcons (.wrap .u64 (.bin .sub .i64 (.var 4) (.lit 1))) .rnil) .anil)) 1)), false)], .cut 1 ⟨[(1, .bin .add .i64 (.var 1) (.lit 1)), (3, .plus (.plus (.var 3) (.lit 1)) (.rlen (.rapp 82 (.acons (.rcons (.wrap .u64 (.bin .sub .i64 (.var 4) (.lit 1))) .rnil) .anil)) 1))], [(2, .cat (.cat (.rvar 2) (.rcons (.lit 0) .rnil)) (.rapp 82 (.acons (.rcons (.wrap .u64 (.bin .sub .i64 (.var 4) (.lit 1))) .rnil) .anil)))], [], [(0, 4)]⟩)]] := by kernel_rfl

end Go.Proofs.Ytkfejcffacbngaa.J

namespace Go.Proofs.Ytkfejcffacbngaa.J

open Go Go.Sym

set_option linter.unusedVariables false

abbrev at0 (zs : List Int) (i : Nat) : Int := zs[i]?.getD 0

theorem sel_at0 (zs : List Int) (i : Nat) : selL zs (i : Int) 1 0 = at0 zs i := by simp [selL, at0]

/-- the runs that are still to be written, from a place on -/
def restR (zs : List Int) (i : Nat) : List (Int × Int) := if 0 < i ∧ at0 zs (i - 1) = 0 then runsL ((zs.drop i).drop (zc (zs.drop i))) else runsL (zs.drop i)

theorem drop_at {zs : List Int} {i : Nat} (h : i < zs.length) : zs.drop i = at0 zs i :: zs.drop (i + 1) := by
  rw [List.drop_eq_getElem_cons h]; simp [at0, h]

theorem restR_num {zs : List Int} {i : Nat} (h : i < zs.length) (hx : at0 zs i ≠ 0) : restR zs i = (at0 zs i, 1) :: restR zs (i + 1) := by
  have hz : zc (zs.drop i) = 0 := by rw [drop_at h, zc, if_neg hx]
  have e : restR zs i = runsL (zs.drop i) := by unfold restR; split <;> simp [hz]
  have e2 : restR zs (i + 1) = runsL (zs.drop (i + 1)) := by unfold restR; rw [if_neg (by simp [hx])]
  rw [e, e2, drop_at h, runsL_cons, rl_one hx]; rfl

theorem restR_in {zs : List Int} {i : Nat} (h : i < zs.length) (h0 : 0 < i) (hp : at0 zs (i - 1) = 0) (hx : at0 zs i = 0) : restR zs i = restR zs (i + 1) := by
  unfold restR
  rw [if_pos ⟨h0, hp⟩, if_pos ⟨by omega, by simpa using hx⟩, drop_at h, zc, if_pos hx]
  rfl

theorem restR_zero {zs : List Int} {i : Nat} (h : i < zs.length) (hp : ¬ (0 < i ∧ at0 zs (i - 1) = 0)) (hx : at0 zs i = 0) : restR zs i = (0, (zc (zs.drop i) : Int)) :: restR zs (i + 1) := by
  have hz : zc (zs.drop i) = zc (zs.drop (i + 1)) + 1 := by rw [drop_at h, zc, if_pos hx]
  have e2 : restR zs (i + 1) = runsL ((zs.drop (i + 1)).drop (zc (zs.drop (i + 1)))) := by unfold restR; rw [if_pos ⟨by omega, by simpa using hx⟩]
  have e1 : restR zs i = runsL (zs.drop i) := by unfold restR; rw [if_neg hp]
  have hr : rl (zs.drop i) = zc (zs.drop (i + 1)) + 1 := by rw [drop_at h, rl, if_pos hx]
  rw [e1, e2, hz]
  have hc := runsL_cons (at0 zs i) (zs.drop (i + 1))
  rw [← drop_at h, hr] at hc
  rw [hc, hx, drop_at h]
  rfl

theorem restR_end {zs : List Int} : restR zs zs.length = [] := by
  unfold restR; split <;> simp [runsL, runsF]

theorem restR_0 (zs : List Int) : restR zs 0 = runsL zs := by unfold restR; simp

theorem zc_at {zs : List Int} {i k : Nat} (hk : i + k ≤ zs.length) (h0 : ∀ j, j < k → at0 zs (i + j) = 0) (h1 : i + k < zs.length → at0 zs (i + k) ≠ 0) : zc (zs.drop i) = k := by
  refine zc_eq _ _ (fun j hj => ?_) ?_
  · have h := h0 j hj
    have hlt : i + j < zs.length := by omega
    rw [List.getElem?_drop, List.getElem?_eq_getElem hlt]
    simp [at0, hlt] at h
    rw [h]
  · rw [List.getElem?_drop]
    intro h
    have hlt : i + k < zs.length := (List.getElem?_eq_some_iff.1 h).1
    exact h1 hlt (by simp [at0, h])

theorem putB_zero (k : Int) : putB (0, k) = 0 :: lebN 10 (IntKind.u64.wrap (IntKind.i64.wrap (k - 1))) := by
  have : lebN 10 (foldM 0) = [0] := by decide
  simp [putB, this]

theorem putB_num {x : Int} (h : x ≠ 0) (k : Int) : putB (x, k) = lebN 10 (foldM x) := by simp [putB, h]

theorem putS_cons (p : Int × Int) (l : List (Int × Int)) : putS (p :: l) = putB p ++ putS l := by simp [putS]

def Outd (zs out : List Int) (i : Nat) : Prop := out ++ putS (restR zs i) = putS (runsL zs) ∧ out.length ≤ 22 * i

theorem Outd.start (zs : List Int) : Outd zs [] 0 := ⟨by rw [restR_0]; rfl, by simp⟩

theorem Outd.num {zs out : List Int} {i : Nat} (h : Outd zs out i) (hi : i < zs.length) (hx : at0 zs i ≠ 0) : Outd zs (out ++ lebN 10 (foldM (at0 zs i))) (i + 1) := by
  have hl := (lebN_len' 10 (foldM (at0 zs i))).2
  refine ⟨?_, by have := h.2; rw [List.length_append]; omega⟩
  rw [← h.1, restR_num hi hx, putS_cons, putB_num hx, List.append_assoc]

theorem Outd.inn {zs out : List Int} {i : Nat} (h : Outd zs out i) (hi : i < zs.length) (h0 : 0 < i) (hp : at0 zs (i - 1) = 0) (hx : at0 zs i = 0) : Outd zs out (i + 1) :=
  ⟨by rw [← h.1, restR_in hi h0 hp hx], by have := h.2; omega⟩

theorem Outd.zero {zs out : List Int} {i k : Nat} (h : Outd zs out i) (hi : i < zs.length) (hp : ¬ (0 < i ∧ at0 zs (i - 1) = 0)) (hx : at0 zs i = 0) (hk : i + k ≤ zs.length) (h0 : ∀ j, j < k → at0 zs (i + j) = 0) (h1 : i + k < zs.length → at0 zs (i + k) ≠ 0) :
    Outd zs (out ++ 0 :: lebN 10 (IntKind.u64.wrap (binI .sub .i64 (k : Int) 1))) (i + 1) := by
  have hl := (lebN_len' 10 (IntKind.u64.wrap (binI .sub .i64 (k : Int) 1))).2
  refine ⟨?_, by have := h.2; rw [List.length_append, List.length_cons]; omega⟩
  rw [← h.1, restR_zero hi hp hx, putS_cons, zc_at hk h0 h1, putB_zero, List.append_assoc]
  rfl

end Go.Proofs.Ytkfejcffacbngaa.J

namespace Go.Proofs.Ytkfejcffacbngaa.J

open Go Go.Sym

set_option linter.unusedVariables false

theorem r_s {c : Pc} (h : PcOk Try.prog FNr c) (h1 : ∀ i, i < c.rks.length → c.id + i ≤ 104) (h2 : c.pre = []) : PcOk Try.prog FNs c := by
  refine h.cong (fun i hi => ?_) (fun i hi => by rw [h2] at hi; cases hi)
  have := h1 i hi
  generalize c.id + i = j at this
  funext l
  unfold FNs
  split <;> first | omega | rfl

theorem p_s {c : Pc} (h : PcOk Try.prog FNp c) (h1 : ∀ i, i < c.rks.length → c.id + i ≤ 101) (h2 : c.pre = []) : PcOk Try.prog FNs c := by
  refine h.cong (fun i hi => ?_) (fun i hi => by rw [h2] at hi; cases hi)
  have := h1 i hi
  generalize c.id + i = j at this
  funext l
  unfold FNs FNr FNq
  split <;> first | omega | (split <;> first | omega | (split <;> first | omega | rfl))

theorem a_p {c : Pc} (h : PcOk Try.prog FNa c) (h1 : ∀ i, i < c.rks.length → c.id + i ≤ 99) (h2 : c.pre = []) : PcOk Try.prog FNp c := by
  refine h.cong (fun i hi => ?_) (fun i hi => by rw [h2] at hi; cases hi)
  have := h1 i hi
  generalize c.id + i = j at this
  funext l
  unfold FNp
  split <;> first | omega | rfl

theorem rfB_s : PcOk Try.prog FNs pcRfB := p_s (a_p rfB_ok (by decide) rfl) (by decide) rfl
theorem foldR_s : PcOk Try.prog FNs pcFoldR := p_s foldR_ok (by decide) rfl

theorem knB_ok : ∀ env : Env, env.fn = FNs → KnOk Try.prog env knB := fun env h => knOk_cons (knOk_cons knOk_nil (Pc.ct_ok h foldR_s)) (Pc.ct_ok h rfB_s)

def invB (ls : List (List Int)) (c : Nat) (env : Env) : Prop := ∃ zs, ls = [zs] ∧ zs.length ≤ 1000000 ∧ env.row 0 = zs ∧
  ((c = 0) ∨
   (c = 1 ∧ ∃ i : Nat, vInt (env.val 1) = i ∧ 1 ≤ i ∧ i ≤ zs.length ∧ vInt (env.val 3) = ((env.row 2).length : Int) ∧ Outd zs (env.row 2) i) ∨
   (c = 2 ∧ ∃ k : Nat, vInt (env.val 4) = k ∧ k ≤ zs.length ∧ 0 < zs.length ∧ at0 zs 0 = 0 ∧ ∀ j, j < k → at0 zs (0 + j) = 0) ∨
   (c = 3 ∧ ∃ i k : Nat, vInt (env.val 1) = i ∧ vInt (env.val 4) = k ∧ 1 ≤ i ∧ i < zs.length ∧ i + k ≤ zs.length ∧ at0 zs i = 0 ∧ at0 zs (i - 1) ≠ 0 ∧ (∀ j, j < k → at0 zs (i + j) = 0) ∧ vInt (env.val 3) = ((env.row 2).length : Int) ∧ Outd zs (env.row 2) i))

def muB (ls : List (List Int)) (c : Nat) (env : Env) : Nat × Nat :=
  (match c with
   | 0 => 2 * (ls.headD []).length + 2
   | 1 => 2 * ((ls.headD []).length - (vInt (env.val 1)).toNat) + 1
   | 2 => 2 * (ls.headD []).length + 1
   | _ => 2 * ((ls.headD []).length - (vInt (env.val 1)).toNat), (ls.headD []).length - (vInt (env.val 4)).toNat)

theorem inU_ok (env : Env) (hfn : env.fn = FNs) {u : IE} {z : Int} (hz : u.eval env = z) (h : 0 ≤ z ∧ z ≤ 18446744073709551615) : AsOk env (inU u) := by
  have hl := (lebN_len' 10 z).1
  simp only [inU, rowE, ltR, AsOk_cons, AsOk_nil, BE.eval, cmpI, IE.eval, IE.reval, IE.aeval, hfn, hz, FNs_82, Nat.div_one, and_true]
  simp; omega

theorem asOk_append {env : Env} {a b : As} (ha : AsOk env a) (hb : AsOk env b) : AsOk env (a ++ b) := fun p hp => (List.mem_append.1 hp).elim (ha p) (hb p)

end Go.Proofs.Ytkfejcffacbngaa.J
