import Derived.Test.YtkfejcffacbngaaJP

namespace Go.Proofs.Ytkfejcffacbngaa.J

open Go Go.Sym

set_option linter.unusedVariables false

abbrev knL : Kn := [pcAwake.ct, pcJPut.ct, pcRec.ct, pcJGet.ct]
abbrev akL : List ArgK := [.sl [.u8], .sl [.u8], .sl [.u8]]
abbrev ln2 : IE := .rlen (.rvar 2) 1
abbrev asL0 : As := [lt (.lit 500) lnB false, lt (.lit 500) ln1 false, lt (.lit 500) ln2 false]
abbrev jp : IE := .acons (.rvar 0) (.acons (.rvar 1) .anil)
abbrev putR : IE := .rapp 93 jp
abbrev recR : IE := .rapp 92 (.acons (.rvar 1) .anil)
abbrev asL1 : As := [(.req (.w8 putR) (.cat (.w8 (.rvar 0)) (.w8 recR)), true), lt (.lit 9223372036854775807) (.plus (.rlen (.w8 (.rvar 0)) 1) (.rlen (.w8 recR) 1)) false, lt (.lit 0) (.rlen recR 1) true, lt (.lit 0) (.rlen putR 1) true, eq0 (.app 94 jp) true, lt (.lit 140737488355328) (.rlen putR 1) false, lt (.lit 140737488355328) (.plus (.rlen putR 1) ln2) false] ++ asL0
abbrev sumE : IE := .plus (.rlen putR 1) ln2
abbrev gJ : IE := .acons (.cat (.cat .rnil putR) (.rvar 2)) (.acons (.rcons lnB .rnil) .anil)
abbrev gotE : IE := .rapp 95 gJ
abbrev asA : As := [eq0 (.app 98 .anil) false]
abbrev asL2 : As := asA ++ ([lt sumE (.lit 0) false, lt (.lit 4194304) sumE false, eq0 (.app 97 gJ) true, (.cmp .eql (.app 96 gJ) (.rlen putR 1), true)] ++ asL1)
abbrev asL3 : As := [lt (.lit 0) (.rlen gotE 1) true, (.req (.w8 gotE) (.w8 (.rvar 1)), true)] ++ asL2
abbrev asL4 : As := [lt (.lit 0) (.rlen gotE 1) false, (.req (.rcon []) (.w8 (.rvar 1)), true)] ++ asL2

abbrev pE : IE := .acons .rnil (.acons .rnil .anil)
abbrev asW : As := [eq0 (.app 94 pE) true, lt (.lit 0) (.rlen (.rapp 93 pE) 1) true]

theorem awake_entry : entryK Try.prog [pcJPut.ct] 1 400 66 [] 0 [] 3 asW = some [([(.cmp .eql (.app 94 (.acons .rnil (.acons .rnil .anil))) (.lit 0), true), (.cmp .lss (.lit 0) (.rlen (.rapp 93 (.acons .rnil (.acons .rnil .anil))) 1), true)], .ret (.sbool (.req (.w8 (.rapp 93 (.acons .rnil (.acons .rnil .anil)))) (.rcon [1, 0, 0, 0, 0]))) ⟨0, .nil⟩)] := by kernel_rfl

theorem puts_full : entryK Try.prog knL 1 400 16 [] 3 (argSVs 0 akL) 3 asL3 = some [([(.cmp .lss (.lit 0) (.rlen (.rapp 95 (.acons (.cat (.cat .rnil (.rapp 93 (.acons (.rvar 0) (.acons (.rvar 1) .anil)))) (.rvar 2)) (.acons (.rcons (.rlen (.rvar 0) 1) .rnil) .anil))) 1), true), (.req (.w8 (.rapp 95 (.acons (.cat (.cat .rnil (.rapp 93 (.acons (.rvar 0) (.acons (.rvar 1) .anil)))) (.rvar 2)) (.acons (.rcons (.rlen (.rvar 0) 1) .rnil) .anil)))) (.w8 (.rvar 1)), true), (.cmp .eql (.app 98 .anil) (.lit 0), false), (.cmp .lss (.plus (.rlen (.rapp 93 (.acons (.rvar 0) (.acons (.rvar 1) .anil))) 1) (.rlen (.rvar 2) 1)) (.lit 0), false), (.cmp .lss (.lit 4194304) (.plus (.rlen (.rapp 93 (.acons (.rvar 0) (.acons (.rvar 1) .anil))) 1) (.rlen (.rvar 2) 1)), false), (.cmp .eql (.app 97 (.acons (.cat (.cat .rnil (.rapp 93 (.acons (.rvar 0) (.acons (.rvar 1) .anil)))) (.rvar 2)) (.acons (.rcons (.rlen (.rvar 0) 1) .rnil) .anil))) (.lit 0), true), (.cmp .eql (.app 96 (.acons (.cat (.cat .rnil (.rapp 93 (.acons (.rvar 0) (.acons (.rvar 1) .anil)))) (.rvar 2)) (.acons (.rcons (.rlen (.rvar 0) 1) .rnil) .anil))) (.rlen (.rapp 93 (.acons (.rvar 0) (.acons (.rvar 1) .anil))) 1), true), (.req (.w8 (.rapp 93 (.acons (.rvar 0) (.acons (.rvar 1) .anil)))) (.cat (.w8 (.rvar 0)) (.w8 (.rapp 92 (.acons (.rvar 1) .anil)))), true), (.cmp .lss (.lit 9223372036854775807) (.plus (.rlen (.w8 (.rvar 0)) 1) (.rlen (.w8 (.rapp 92 (.acons (.rvar 1) .anil))) 1)), false), (.cmp .lss (.lit 0) (.rlen (.rapp 92 (.acons (.rvar 1) .anil)) 1), true), (.cmp .lss (.lit 0) (.rlen (.rapp 93 (.acons (.rvar 0) (.acons (.rvar 1) .anil))) 1), true), (.cmp .eql (.app 94 (.acons (.rvar 0) (.acons (.rvar 1) .anil))) (.lit 0), true), (.cmp .lss (.lit 140737488355328) (.rlen (.rapp 93 (.acons (.rvar 0) (.acons (.rvar 1) .anil))) 1), false), (.cmp .lss (.lit 140737488355328) (.plus (.rlen (.rapp 93 (.acons (.rvar 0) (.acons (.rvar 1) .anil))) 1) (.rlen (.rvar 2) 1)), false), (.cmp .lss (.lit 500) (.rlen (.rvar 0) 1), false), (.cmp .lss (.lit 500) (.rlen (.rvar 1) 1), false), (.cmp .lss (.lit 500) (.rlen (.rvar 2) 1), false)], .ret (.bool true) ⟨0, .nil⟩)] := by kernel_rfl

theorem puts_empty : entryK Try.prog knL 1 400 16 [] 3 (argSVs 0 akL) 3 asL4 = some [([(.cmp .lss (.lit 0) (.rlen (.rapp 95 (.acons (.cat (.cat .rnil (.rapp 93 (.acons (.rvar 0) (.acons (.rvar 1) .anil)))) (.rvar 2)) (.acons (.rcons (.rlen (.rvar 0) 1) .rnil) .anil))) 1), false), (.req (.rcon []) (.w8 (.rvar 1)), true), (.cmp .eql (.app 98 .anil) (.lit 0), false), (.cmp .lss (.plus (.rlen (.rapp 93 (.acons (.rvar 0) (.acons (.rvar 1) .anil))) 1) (.rlen (.rvar 2) 1)) (.lit 0), false), (.cmp .lss (.lit 4194304) (.plus (.rlen (.rapp 93 (.acons (.rvar 0) (.acons (.rvar 1) .anil))) 1) (.rlen (.rvar 2) 1)), false), (.cmp .eql (.app 97 (.acons (.cat (.cat .rnil (.rapp 93 (.acons (.rvar 0) (.acons (.rvar 1) .anil)))) (.rvar 2)) (.acons (.rcons (.rlen (.rvar 0) 1) .rnil) .anil))) (.lit 0), true), (.cmp .eql (.app 96 (.acons (.cat (.cat .rnil (.rapp 93 (.acons (.rvar 0) (.acons (.rvar 1) .anil)))) (.rvar 2)) (.acons (.rcons (.rlen (.rvar 0) 1) .rnil) .anil))) (.rlen (.rapp 93 (.acons (.rvar 0) (.acons (.rvar 1) .anil))) 1), true), (.req (.w8 (.rapp 93 (.acons (.rvar 0) (.acons (.rvar 1) .anil)))) (.cat (.w8 (.rvar 0)) (.w8 (.rapp 92 (.acons (.rvar 1) .anil)))), true), (.cmp .lss (.lit 9223372036854775807) (.plus (.rlen (.w8 (.rvar 0)) 1) (.rlen (.w8 (.rapp 92 (.acons (.rvar 1) .anil))) 1)), false), (.cmp .lss (.lit 0) (.rlen (.rapp 92 (.acons (.rvar 1) .anil)) 1), true), (.cmp .lss (.lit 0) (.rlen (.rapp 93 (.acons (.rvar 0) (.acons (.rvar 1) .anil))) 1), true), (.cmp .eql (.app 94 (.acons (.rvar 0) (.acons (.rvar 1) .anil))) (.lit 0), true), (.cmp .lss (.lit 140737488355328) (.rlen (.rapp 93 (.acons (.rvar 0) (.acons (.rvar 1) .anil))) 1), false), (.cmp .lss (.lit 140737488355328) (.plus (.rlen (.rapp 93 (.acons (.rvar 0) (.acons (.rvar 1) .anil))) 1) (.rlen (.rvar 2) 1)), false), (.cmp .lss (.lit 500) (.rlen (.rvar 0) 1), false), (.cmp .lss (.lit 500) (.rlen (.rvar 1) 1), false), (.cmp .lss (.lit 500) (.rlen (.rvar 2) 1), false)], .ret (.bool true) ⟨0, .nil⟩)] := by kernel_rfl

theorem puts_0 : entryK Try.prog knL 1 400 16 [] 3 (argSVs 0 akL) 3 (asA ++ [lt (.lit 500) lnB true]) = some [([(.cmp .eql (.app 98 .anil) (.lit 0), false), (.cmp .lss (.lit 500) (.rlen (.rvar 0) 1), true)], .ret (.bool true) ⟨0, .nil⟩)] := by kernel_rfl

theorem puts_1 : entryK Try.prog knL 1 400 16 [] 3 (argSVs 0 akL) 3 (asA ++ [lt (.lit 500) lnB false, lt (.lit 500) ln1 true]) = some [([(.cmp .eql (.app 98 .anil) (.lit 0), false), (.cmp .lss (.lit 500) (.rlen (.rvar 0) 1), false), (.cmp .lss (.lit 500) (.rlen (.rvar 1) 1), true)], .ret (.bool true) ⟨0, .nil⟩)] := by kernel_rfl

theorem puts_2 : entryK Try.prog knL 1 400 16 [] 3 (argSVs 0 akL) 3 (asA ++ [lt (.lit 500) lnB false, lt (.lit 500) ln1 false, lt (.lit 500) ln2 true]) = some [([(.cmp .eql (.app 98 .anil) (.lit 0), false), (.cmp .lss (.lit 500) (.rlen (.rvar 0) 1), false), (.cmp .lss (.lit 500) (.rlen (.rvar 1) 1), false), (.cmp .lss (.lit 500) (.rlen (.rvar 2) 1), true)], .ret (.bool true) ⟨0, .nil⟩)] := by kernel_rfl

end Go.Proofs.Ytkfejcffacbngaa.J
