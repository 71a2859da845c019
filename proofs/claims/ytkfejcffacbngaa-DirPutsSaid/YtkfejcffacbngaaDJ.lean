import Derived.Test.YtkfejcffacbngaaDK

namespace Go.Proofs.Ytkfejcffacbngaa

open Go Go.Sym

set_option linter.unusedVariables false

abbrev pLaw : List Nat := [0, 1, 0, 1, 1, 1, 1, 1, 1, 1, 1, 1, 1, 1, 1, 1, 1]

abbrev knPuts : Kn := [ctTrue 35, pcPut.ct, pcPutR.ct, pcTiles.ct, pcTilesR.ct, pcSize.ct, pcSizeR.ct, pcGet.ct]

abbrev akP : List ArgK := [.int .i64, .int .i64, .sl [.i64], .sl [.u8]]

abbrev aWH : IE := .acons (.rcons (.var 0) .rnil) (.acons (.rcons (.var 1) .rnil) .anil)

abbrev aWHL : IE := .acons (.rcons (.var 0) .rnil) (.acons (.rcons (.var 1) .rnil) (.acons (.rvar 2) .anil))

abbrev putE : IE := .rapp 54 aWHL

abbrev aG : IE := .acons (.cat (.cat .rnil putE) (.rvar 3)) .anil

abbrev eqE (a b : IE) : BE × Bool := (.cmp .eql a b, true)

abbrev ltE (a b : IE) (t : Bool) : BE × Bool := (.cmp .lss a b, t)

abbrev asFew : As := [ltE (.lit 5000) (.rlen (.rvar 2) 1) false, ltE (.lit 100) (.rlen (.rvar 3) 1) false]

abbrev asMain : As := [ltE (.lit 0) (.rlen putE 1) true, eqE (.app 55 aWHL) (.lit 0), ltE (.lit 140737488355328) (.rlen putE 1) false, ltE (.lit 140737488355328) (.plus (.rlen putE 1) (.rlen (.rvar 3) 1)) false, ltE (.plus (.rlen putE 1) (.rlen (.rvar 3) 1)) (.lit 0) false, ltE (.lit 4294967296) (.plus (.rlen putE 1) (.rlen (.rvar 3) 1)) false, ltE (.lit 0) (.rlen (.rapp 72 aG) 2) true, eqE (.app 70 aG) (.var 0), eqE (.app 71 aG) (.var 1), eqE (.app 73 aG) (.lit 0), eqE (.rlen (.rapp 72 aG) 2) (.rlen (.rvar 2) 1), eqE (.rlen putE 1) (.app 52 aWH)] ++ asFew

abbrev asNo : As := (.cmp .eql (.app 55 aWHL) (.lit 0), false) :: ltE (.lit 0) (.rlen putE 1) false :: asFew

abbrev cutLaw : Cuts := [(pLaw, ⟨175, [(2, .rsl (.ro 2 [.i64]) (.lit 0) (.rlen (.rvar 2) 1) 1), (8, .bool false), (23, .rsl (.own 0) (.lit 0) (.var 5) 2), (25, .sint .i64 (.var 6)), (26, .sint .i64 (.var 7))], [(0, ⟨50, 0, [], .nil, true, some (.rvar 4, .var 5, C2)⟩)], 1, [(nonneg (.var 5), true), (atmB (.var 5) (.lit 5000), true), (nonneg (.var 7), true), eqE (.var 5) (.rlen (.rvar 2) 1)]⟩)]

theorem law_long : entryK Try.prog knPuts 1 800 9 [] 4 (argSVs 0 akP) 6 [ltE (.lit 5000) (.rlen (.rvar 2) 1) true] = some [([(.cmp .lss (.lit 5000) (.rlen (.rvar 2) 1), true)], .ret (.bool true) ⟨0, .nil⟩)] := by kernel_rfl

theorem law_behind : entryK Try.prog knPuts 1 800 9 [] 4 (argSVs 0 akP) 6 [ltE (.lit 5000) (.rlen (.rvar 2) 1) false, ltE (.lit 100) (.rlen (.rvar 3) 1) true] = some [([(.cmp .lss (.lit 5000) (.rlen (.rvar 2) 1), false), (.cmp .lss (.lit 100) (.rlen (.rvar 3) 1), true)], .ret (.bool true) ⟨0, .nil⟩)] := by kernel_rfl

theorem law_no : entryK Try.prog knPuts 1 800 9 [] 4 (argSVs 0 akP) 6 asNo = some [([(.cmp .eql (.app 55 (.acons (.rcons (.var 0) .rnil) (.acons (.rcons (.var 1) .rnil) (.acons (.rvar 2) .anil)))) (.lit 0), false), (.cmp .lss (.lit 0) (.rlen (.rapp 54 (.acons (.rcons (.var 0) .rnil) (.acons (.rcons (.var 1) .rnil) (.acons (.rvar 2) .anil)))) 1), false), (.cmp .lss (.lit 5000) (.rlen (.rvar 2) 1), false), (.cmp .lss (.lit 100) (.rlen (.rvar 3) 1), false)], .ret (.bool true) ⟨0, .nil⟩)] := by kernel_rfl

theorem law_entry : entryK Try.prog knPuts 1 800 9 cutLaw 4 (argSVs 0 akP) 6 asMain = some [([(.cmp .lss (.lit 0) (.rlen (.rapp 54 (.acons (.rcons (.var 0) .rnil) (.acons (.rcons (.var 1) .rnil) (.acons (.rvar 2) .anil)))) 1), true), (.cmp .eql (.app 55 (.acons (.rcons (.var 0) .rnil) (.acons (.rcons (.var 1) .rnil) (.acons (.rvar 2) .anil)))) (.lit 0), true), (.cmp .lss (.lit 140737488355328) (.rlen (.rapp 54 (.acons (.rcons (.var 0) .rnil) (.acons (.rcons (.var 1) .rnil) (.acons (.rvar 2) .anil)))) 1), false), (.cmp .lss (.lit 140737488355328) (.plus (.rlen (.rapp 54 (.acons (.rcons (.var 0) .rnil) (.acons (.rcons (.var 1) .rnil) (.acons (.rvar 2) .anil)))) 1) (.rlen (.rvar 3) 1)), false), (.cmp .lss (.plus (.rlen (.rapp 54 (.acons (.rcons (.var 0) .rnil) (.acons (.rcons (.var 1) .rnil) (.acons (.rvar 2) .anil)))) 1) (.rlen (.rvar 3) 1)) (.lit 0), false), (.cmp .lss (.lit 4294967296) (.plus (.rlen (.rapp 54 (.acons (.rcons (.var 0) .rnil) (.acons (.rcons (.var 1) .rnil) (.acons (.rvar 2) .anil)))) 1) (.rlen (.rvar 3) 1)), false), (.cmp .lss (.lit 0) (.rlen (.rapp 72 (.acons (.cat (.cat .rnil (.rapp 54 (.acons (.rcons (.var 0) .rnil) (.acons (.rcons (.var 1) .rnil) (.acons (.rvar 2) .anil))))) (.rvar 3)) .anil)) 2), true), (.cmp .eql (.app 70 (.acons (.cat (.cat .rnil (.rapp 54 (.acons (.rcons (.var 0) .rnil) (.acons (.rcons (.var 1) .rnil) (.acons (.rvar 2) .anil))))) (.rvar 3)) .anil)) (.var 0), true), (.cmp .eql (.app 71 (.acons (.cat (.cat .rnil (.rapp 54 (.acons (.rcons (.var 0) .rnil) (.acons (.rcons (.var 1) .rnil) (.acons (.rvar 2) .anil))))) (.rvar 3)) .anil)) (.var 1), true), (.cmp .eql (.app 73 (.acons (.cat (.cat .rnil (.rapp 54 (.acons (.rcons (.var 0) .rnil) (.acons (.rcons (.var 1) .rnil) (.acons (.rvar 2) .anil))))) (.rvar 3)) .anil)) (.lit 0), true), (.cmp .eql (.rlen (.rapp 72 (.acons (.cat (.cat .rnil (.rapp 54 (.acons (.rcons (.var 0) .rnil) (.acons (.rcons (.var 1) .rnil) (.acons (.rvar 2) .anil))))) (.rvar 3)) .anil)) 2) (.rlen (.rvar 2) 1), true), (.cmp .eql (.rlen (.rapp 54 (.acons (.rcons (.var 0) .rnil) (.acons (.rcons (.var 1) .rnil) (.acons (.rvar 2) .anil)))) 1) (.app 52 (.acons (.rcons (.var 0) .rnil) (.acons (.rcons (.var 1) .rnil) .anil))), true), (.cmp .lss (.lit 5000) (.rlen (.rvar 2) 1), false), (.cmp .lss (.lit 100) (.rlen (.rvar 3) 1), false)], .cut 0 ⟨[(7, .lit 0), (6, .app 52 (.acons (.rcons (.var 0) .rnil) (.acons (.rcons (.var 1) .rnil) .anil))), (5, .rlen (.rapp 72 (.acons (.cat (.cat .rnil (.rapp 54 (.acons (.rcons (.var 0) .rnil) (.acons (.rcons (.var 1) .rnil) (.acons (.rvar 2) .anil))))) (.rvar 3)) .anil)) 2)], [(4, .rapp 72 (.acons (.cat (.cat .rnil (.rapp 54 (.acons (.rcons (.var 0) .rnil) (.acons (.rcons (.var 1) .rnil) (.acons (.rvar 2) .anil))))) (.rvar 3)) .anil))], [], [(0, 5)]⟩)] := by kernel_rfl

theorem law_rounds : roundsK Try.prog knPuts 1 800 9 cutLaw 4 6 cutLaw = some [[([(.cmp .eql (.sel (.rvar 4) (.var 7) 2 1) (.sel (.rvar 2) (.var 7) 1 0), true), (.cmp .eql (.sel (.rvar 4) (.var 7) 2 0) (.var 6), true), (.cmp .lss (.var 7) (.var 5), true), (.not (.cmp .lss (.var 5) (.lit 0)), true), (.not (.cmp .lss (.lit 5000) (.var 5)), true), (.not (.cmp .lss (.var 7) (.lit 0)), true), (.cmp .eql (.var 5) (.rlen (.rvar 2) 1), true)], .cut 0 ⟨[(7, .bin .add .i64 (.var 7) (.lit 1)), (6, .bin .add .i64 (.var 6) (.sel (.rvar 2) (.var 7) 1 0)), (5, .var 5)], [(4, .rvar 4)], [], [(0, 0)]⟩), ([(.cmp .eql (.sel (.rvar 4) (.var 7) 2 1) (.sel (.rvar 2) (.var 7) 1 0), false), (.cmp .eql (.sel (.rvar 4) (.var 7) 2 0) (.var 6), true), (.cmp .lss (.var 7) (.var 5), true), (.not (.cmp .lss (.var 5) (.lit 0)), true), (.not (.cmp .lss (.lit 5000) (.var 5)), true), (.not (.cmp .lss (.var 7) (.lit 0)), true), (.cmp .eql (.var 5) (.rlen (.rvar 2) 1), true)], .ret (.bool false) ⟨0, .nil⟩), ([(.cmp .eql (.sel (.rvar 4) (.var 7) 2 0) (.var 6), false), (.cmp .lss (.var 7) (.var 5), true), (.not (.cmp .lss (.var 5) (.lit 0)), true), (.not (.cmp .lss (.lit 5000) (.var 5)), true), (.not (.cmp .lss (.var 7) (.lit 0)), true), (.cmp .eql (.var 5) (.rlen (.rvar 2) 1), true)], .ret (.bool false) ⟨0, .nil⟩), ([(.cmp .lss (.var 7) (.var 5), false), (.not (.cmp .lss (.var 5) (.lit 0)), true), (.not (.cmp .lss (.lit 5000) (.var 5)), true), (.not (.cmp .lss (.var 7) (.lit 0)), true), (.cmp .eql (.var 5) (.rlen (.rvar 2) 1), true)], .ret (.bool true) ⟨0, .nil⟩)]] := by kernel_rfl

end Go.Proofs.Ytkfejcffacbngaa
