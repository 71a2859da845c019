import Derived.Test.YtkfejcffacbngaaMGA


namespace Go.Proofs.Ytkfejcffacbngaa.J

open Go Go.Sym

set_option linter.unusedVariables false

def pcGuess : Pc := ⟨122, [.int .i64, .sl [.i64], .int .i64, .int .i64], [.int .i64], 115, [], []⟩

theorem guess_entry : entryK Try.prog [] 50 200 122 [] 4 (argSVs 0 pcGuess.aks) 30 [] = some [([(.cmp .eql (.var 0) (.lit 0), true)], .ret (.int .i64 0) ⟨0, .nil⟩), ([(.cmp .eql (.var 3) (.lit 0), true), (.cmp .eql (.var 0) (.lit 0), false)], .ret (.int .i64 0) ⟨0, .nil⟩), ([(.cmp .eql (.var 2) (.lit 0), true), (.cmp .eql (.var 3) (.lit 0), false), (.cmp .eql (.var 0) (.lit 0), false)], .bad), ([(.cmp .lss (.bin .sub .i64 (.var 3) (.var 2)) (.lit 0), true), (.cmp .eql (.bin .rem .i64 (.var 3) (.var 2)) (.lit 0), true), (.cmp .eql (.var 2) (.lit 0), false), (.cmp .eql (.var 3) (.lit 0), false), (.cmp .eql (.var 0) (.lit 0), false)], .bad), ([(.cmp .lss (.bin .sub .i64 (.var 3) (.var 2)) (.rlen (.rvar 1) 1), true), (.cmp .lss (.bin .sub .i64 (.var 3) (.var 2)) (.lit 0), false), (.cmp .eql (.bin .rem .i64 (.var 3) (.var 2)) (.lit 0), true), (.cmp .eql (.var 2) (.lit 0), false), (.cmp .eql (.var 3) (.lit 0), false), (.cmp .eql (.var 0) (.lit 0), false)], .ret (.sint .i64 (.sel (.rvar 1) (.bin .sub .i64 (.var 3) (.var 2)) 1 0)) ⟨0, .nil⟩), ([(.cmp .lss (.bin .sub .i64 (.var 3) (.var 2)) (.rlen (.rvar 1) 1), false), (.cmp .lss (.bin .sub .i64 (.var 3) (.var 2)) (.lit 0), false), (.cmp .eql (.bin .rem .i64 (.var 3) (.var 2)) (.lit 0), true), (.cmp .eql (.var 2) (.lit 0), false), (.cmp .eql (.var 3) (.lit 0), false), (.cmp .eql (.var 0) (.lit 0), false)], .bad), ([(.cmp .lss (.bin .sub .i64 (.var 3) (.lit 1)) (.lit 0), true), (.cmp .eql (.var 0) (.lit 1), true), (.cmp .eql (.bin .rem .i64 (.var 3) (.var 2)) (.lit 0), false), (.cmp .eql (.var 2) (.lit 0), false), (.cmp .eql (.var 3) (.lit 0), false), (.cmp .eql (.var 0) (.lit 0), false)], .bad), ([(.cmp .lss (.bin .sub .i64 (.var 3) (.lit 1)) (.rlen (.rvar 1) 1), true), (.cmp .lss (.bin .sub .i64 (.var 3) (.lit 1)) (.lit 0), false), (.cmp .eql (.var 0) (.lit 1), true), (.cmp .eql (.bin .rem .i64 (.var 3) (.var 2)) (.lit 0), false), (.cmp .eql (.var 2) (.lit 0), false), (.cmp .eql (.var 3) (.lit 0), false), (.cmp .eql (.var 0) (.lit 0), false)], .ret (.sint .i64 (.sel (.rvar 1) (.bin .sub .i64 (.var 3) (.lit 1)) 1 0)) ⟨0, .nil⟩), ([(.cmp .lss (.bin .sub .i64 (.var 3) (.lit 1)) (.rlen (.rvar 1) 1), false), (.cmp .lss (.bin .sub .i64 (.var 3) (.lit 1)) (.lit 0), false), (.cmp .eql (.var 0) (.lit 1), true), (.cmp .eql (.bin .rem .i64 (.var 3) (.var 2)) (.lit 0), false), (.cmp .eql (.var 2) (.lit 0), false), (.cmp .eql (.var 3) (.lit 0), false), (.cmp .eql (.var 0) (.lit 0), false)], .bad), ([(.cmp .lss (.bin .sub .i64 (.var 3) (.lit 1)) (.lit 0), true), (.cmp .lss (.var 3) (.var 2), true), (.cmp .eql (.var 0) (.lit 1), false), (.cmp .eql (.bin .rem .i64 (.var 3) (.var 2)) (.lit 0), false), (.cmp .eql (.var 2) (.lit 0), false), (.cmp .eql (.var 3) (.lit 0), false), (.cmp .eql (.var 0) (.lit 0), false)], .bad), ([(.cmp .lss (.bin .sub .i64 (.var 3) (.lit 1)) (.rlen (.rvar 1) 1), true), (.cmp .lss (.bin .sub .i64 (.var 3) (.lit 1)) (.lit 0), false), (.cmp .lss (.var 3) (.var 2), true), (.cmp .eql (.var 0) (.lit 1), false), (.cmp .eql (.bin .rem .i64 (.var 3) (.var 2)) (.lit 0), false), (.cmp .eql (.var 2) (.lit 0), false), (.cmp .eql (.var 3) (.lit 0), false), (.cmp .eql (.var 0) (.lit 0), false)], .ret (.sint .i64 (.sel (.rvar 1) (.bin .sub .i64 (.var 3) (.lit 1)) 1 0)) ⟨0, .nil⟩), ([(.cmp .lss (.bin .sub .i64 (.var 3) (.lit 1)) (.rlen (.rvar 1) 1), false), (.cmp .lss (.bin .sub .i64 (.var 3) (.lit 1)) (.lit 0), false), (.cmp .lss (.var 3) (.var 2), true), (.cmp .eql (.var 0) (.lit 1), false), (.cmp .eql (.bin .rem .i64 (.var 3) (.var 2)) (.lit 0), false), (.cmp .eql (.var 2) (.lit 0), false), (.cmp .eql (.var 3) (.lit 0), false), (.cmp .eql (.var 0) (.lit 0), false)], .bad), ([(.cmp .lss (.bin .sub .i64 (.var 3) (.lit 1)) (.lit 0), true), (.cmp .lss (.var 3) (.var 2), false), (.cmp .eql (.var 0) (.lit 1), false), (.cmp .eql (.bin .rem .i64 (.var 3) (.var 2)) (.lit 0), false), (.cmp .eql (.var 2) (.lit 0), false), (.cmp .eql (.var 3) (.lit 0), false), (.cmp .eql (.var 0) (.lit 0), false)], .bad), ([(.cmp .lss (.bin .sub .i64 (.var 3) (.var 2)) (.lit 0), true), (.cmp .lss (.bin .sub .i64 (.var 3) (.lit 1)) (.rlen (.rvar 1) 1), true), (.cmp .lss (.bin .sub .i64 (.var 3) (.lit 1)) (.lit 0), false), (.cmp .lss (.var 3) (.var 2), false), (.cmp .eql (.var 0) (.lit 1), false), (.cmp .eql (.bin .rem .i64 (.var 3) (.var 2)) (.lit 0), false), (.cmp .eql (.var 2) (.lit 0), false), (.cmp .eql (.var 3) (.lit 0), false), (.cmp .eql (.var 0) (.lit 0), false)], .bad), ([(.cmp .lss (.bin .sub .i64 (.bin .sub .i64 (.var 3) (.var 2)) (.lit 1)) (.lit 0), true), (.cmp .lss (.bin .sub .i64 (.var 3) (.var 2)) (.rlen (.rvar 1) 1), true), (.cmp .lss (.bin .sub .i64 (.var 3) (.var 2)) (.lit 0), false), (.cmp .lss (.bin .sub .i64 (.var 3) (.lit 1)) (.rlen (.rvar 1) 1), true), (.cmp .lss (.bin .sub .i64 (.var 3) (.lit 1)) (.lit 0), false), (.cmp .lss (.var 3) (.var 2), false), (.cmp .eql (.var 0) (.lit 1), false), (.cmp .eql (.bin .rem .i64 (.var 3) (.var 2)) (.lit 0), false), (.cmp .eql (.var 2) (.lit 0), false), (.cmp .eql (.var 3) (.lit 0), false), (.cmp .eql (.var 0) (.lit 0), false)], .bad), ([(.cmp .lss (.bin .sub .i64 (.bin .sub .i64 (.var 3) (.var 2)) (.lit 1)) (.rlen (.rvar 1) 1), true), (.cmp .lss (.bin .sub .i64 (.bin .sub .i64 (.var 3) (.var 2)) (.lit 1)) (.lit 0), false), (.cmp .lss (.bin .sub .i64 (.var 3) (.var 2)) (.rlen (.rvar 1) 1), true), (.cmp .lss (.bin .sub .i64 (.var 3) (.var 2)) (.lit 0), false), (.cmp .lss (.bin .sub .i64 (.var 3) (.lit 1)) (.rlen (.rvar 1) 1), true), (.cmp .lss (.bin .sub .i64 (.var 3) (.lit 1)) (.lit 0), false), (.cmp .lss (.var 3) (.var 2), false), (.cmp .eql (.var 0) (.lit 1), false), (.cmp .eql (.bin .rem .i64 (.var 3) (.var 2)) (.lit 0), false), (.cmp .eql (.var 2) (.lit 0), false), (.cmp .eql (.var 3) (.lit 0), false), (.cmp .eql (.var 0) (.lit 0), false)], .ret (.sint .i64 (.bin .lss .i64 (.bin .gtr .i64 (.bin .sub .i64 (.bin .add .i64 (.sel (.rvar 1) (.bin .sub .i64 (.var 3) (.lit 1)) 1 0) (.sel (.rvar 1) (.bin .sub .i64 (.var 3) (.var 2)) 1 0)) (.sel (.rvar 1) (.bin .sub .i64 (.bin .sub .i64 (.var 3) (.var 2)) (.lit 1)) 1 0)) (.bin .lss .i64 (.sel (.rvar 1) (.bin .sub .i64 (.var 3) (.lit 1)) 1 0) (.sel (.rvar 1) (.bin .sub .i64 (.var 3) (.var 2)) 1 0))) (.bin .gtr .i64 (.sel (.rvar 1) (.bin .sub .i64 (.var 3) (.lit 1)) 1 0) (.sel (.rvar 1) (.bin .sub .i64 (.var 3) (.var 2)) 1 0)))) ⟨0, .nil⟩), ([(.cmp .lss (.bin .sub .i64 (.bin .sub .i64 (.var 3) (.var 2)) (.lit 1)) (.rlen (.rvar 1) 1), false), (.cmp .lss (.bin .sub .i64 (.bin .sub .i64 (.var 3) (.var 2)) (.lit 1)) (.lit 0), false), (.cmp .lss (.bin .sub .i64 (.var 3) (.var 2)) (.rlen (.rvar 1) 1), true), (.cmp .lss (.bin .sub .i64 (.var 3) (.var 2)) (.lit 0), false), (.cmp .lss (.bin .sub .i64 (.var 3) (.lit 1)) (.rlen (.rvar 1) 1), true), (.cmp .lss (.bin .sub .i64 (.var 3) (.lit 1)) (.lit 0), false), (.cmp .lss (.var 3) (.var 2), false), (.cmp .eql (.var 0) (.lit 1), false), (.cmp .eql (.bin .rem .i64 (.var 3) (.var 2)) (.lit 0), false), (.cmp .eql (.var 2) (.lit 0), false), (.cmp .eql (.var 3) (.lit 0), false), (.cmp .eql (.var 0) (.lit 0), false)], .bad), ([(.cmp .lss (.bin .sub .i64 (.var 3) (.var 2)) (.rlen (.rvar 1) 1), false), (.cmp .lss (.bin .sub .i64 (.var 3) (.var 2)) (.lit 0), false), (.cmp .lss (.bin .sub .i64 (.var 3) (.lit 1)) (.rlen (.rvar 1) 1), true), (.cmp .lss (.bin .sub .i64 (.var 3) (.lit 1)) (.lit 0), false), (.cmp .lss (.var 3) (.var 2), false), (.cmp .eql (.var 0) (.lit 1), false), (.cmp .eql (.bin .rem .i64 (.var 3) (.var 2)) (.lit 0), false), (.cmp .eql (.var 2) (.lit 0), false), (.cmp .eql (.var 3) (.lit 0), false), (.cmp .eql (.var 0) (.lit 0), false)], .bad), ([(.cmp .lss (.bin .sub .i64 (.var 3) (.lit 1)) (.rlen (.rvar 1) 1), false), (.cmp .lss (.bin .sub .i64 (.var 3) (.lit 1)) (.lit 0), false), (.cmp .lss (.var 3) (.var 2), false), (.cmp .eql (.var 0) (.lit 1), false), (.cmp .eql (.bin .rem .i64 (.var 3) (.var 2)) (.lit 0), false), (.cmp .eql (.var 2) (.lit 0), false), (.cmp .eql (.var 3) (.lit 0), false), (.cmp .eql (.var 0) (.lit 0), false)], .bad)] := by kernel_rfl

def pcGuessR : Pc := ⟨124, [.int .i64, .sl [.i64], .int .i64, .int .i64], [.int .i64], 116, [], []⟩

theorem guessR_entry : entryK Try.prog [] 50 200 124 [] 4 (argSVs 0 pcGuessR.aks) 30 [] = some [([(.cmp .eql (.var 2) (.lit 0), true)], .bad), ([(.cmp .eql (.var 0) (.lit 0), true), (.cmp .eql (.var 2) (.lit 0), false)], .ret (.int .i64 0) ⟨0, .nil⟩), ([(.cmp .eql (.bin .quo .i64 (.var 3) (.var 2)) (.lit 0), true), (.cmp .eql (.bin .rem .i64 (.var 3) (.var 2)) (.lit 0), true), (.cmp .eql (.var 0) (.lit 0), false), (.cmp .eql (.var 2) (.lit 0), false)], .ret (.int .i64 0) ⟨0, .nil⟩), ([(.cmp .lss (.bin .add .i64 (.bin .mul .i64 (.bin .sub .i64 (.bin .quo .i64 (.var 3) (.var 2)) (.lit 1)) (.var 2)) (.lit 0)) (.lit 0), true), (.cmp .eql (.bin .quo .i64 (.var 3) (.var 2)) (.lit 0), false), (.cmp .eql (.bin .rem .i64 (.var 3) (.var 2)) (.lit 0), true), (.cmp .eql (.var 0) (.lit 0), false), (.cmp .eql (.var 2) (.lit 0), false)], .bad), ([(.cmp .lss (.bin .add .i64 (.bin .mul .i64 (.bin .sub .i64 (.bin .quo .i64 (.var 3) (.var 2)) (.lit 1)) (.var 2)) (.lit 0)) (.rlen (.rvar 1) 1), true), (.cmp .lss (.bin .add .i64 (.bin .mul .i64 (.bin .sub .i64 (.bin .quo .i64 (.var 3) (.var 2)) (.lit 1)) (.var 2)) (.lit 0)) (.lit 0), false), (.cmp .eql (.bin .quo .i64 (.var 3) (.var 2)) (.lit 0), false), (.cmp .eql (.bin .rem .i64 (.var 3) (.var 2)) (.lit 0), true), (.cmp .eql (.var 0) (.lit 0), false), (.cmp .eql (.var 2) (.lit 0), false)], .ret (.sint .i64 (.sel (.rvar 1) (.bin .add .i64 (.bin .mul .i64 (.bin .sub .i64 (.bin .quo .i64 (.var 3) (.var 2)) (.lit 1)) (.var 2)) (.lit 0)) 1 0)) ⟨0, .nil⟩), ([(.cmp .lss (.bin .add .i64 (.bin .mul .i64 (.bin .sub .i64 (.bin .quo .i64 (.var 3) (.var 2)) (.lit 1)) (.var 2)) (.lit 0)) (.rlen (.rvar 1) 1), false), (.cmp .lss (.bin .add .i64 (.bin .mul .i64 (.bin .sub .i64 (.bin .quo .i64 (.var 3) (.var 2)) (.lit 1)) (.var 2)) (.lit 0)) (.lit 0), false), (.cmp .eql (.bin .quo .i64 (.var 3) (.var 2)) (.lit 0), false), (.cmp .eql (.bin .rem .i64 (.var 3) (.var 2)) (.lit 0), true), (.cmp .eql (.var 0) (.lit 0), false), (.cmp .eql (.var 2) (.lit 0), false)], .bad), ([(.cmp .lss (.bin .add .i64 (.bin .mul .i64 (.bin .quo .i64 (.var 3) (.var 2)) (.var 2)) (.bin .sub .i64 (.bin .rem .i64 (.var 3) (.var 2)) (.lit 1))) (.lit 0), true), (.cmp .eql (.bin .rem .i64 (.var 3) (.var 2)) (.lit 0), false), (.cmp .eql (.var 0) (.lit 0), false), (.cmp .eql (.var 2) (.lit 0), false)], .bad), ([(.cmp .eql (.var 0) (.lit 1), true), (.cmp .lss (.bin .add .i64 (.bin .mul .i64 (.bin .quo .i64 (.var 3) (.var 2)) (.var 2)) (.bin .sub .i64 (.bin .rem .i64 (.var 3) (.var 2)) (.lit 1))) (.rlen (.rvar 1) 1), true), (.cmp .lss (.bin .add .i64 (.bin .mul .i64 (.bin .quo .i64 (.var 3) (.var 2)) (.var 2)) (.bin .sub .i64 (.bin .rem .i64 (.var 3) (.var 2)) (.lit 1))) (.lit 0), false), (.cmp .eql (.bin .rem .i64 (.var 3) (.var 2)) (.lit 0), false), (.cmp .eql (.var 0) (.lit 0), false), (.cmp .eql (.var 2) (.lit 0), false)], .ret (.sint .i64 (.sel (.rvar 1) (.bin .add .i64 (.bin .mul .i64 (.bin .quo .i64 (.var 3) (.var 2)) (.var 2)) (.bin .sub .i64 (.bin .rem .i64 (.var 3) (.var 2)) (.lit 1))) 1 0)) ⟨0, .nil⟩), ([(.cmp .eql (.bin .quo .i64 (.var 3) (.var 2)) (.lit 0), true), (.cmp .eql (.var 0) (.lit 1), false), (.cmp .lss (.bin .add .i64 (.bin .mul .i64 (.bin .quo .i64 (.var 3) (.var 2)) (.var 2)) (.bin .sub .i64 (.bin .rem .i64 (.var 3) (.var 2)) (.lit 1))) (.rlen (.rvar 1) 1), true), (.cmp .lss (.bin .add .i64 (.bin .mul .i64 (.bin .quo .i64 (.var 3) (.var 2)) (.var 2)) (.bin .sub .i64 (.bin .rem .i64 (.var 3) (.var 2)) (.lit 1))) (.lit 0), false), (.cmp .eql (.bin .rem .i64 (.var 3) (.var 2)) (.lit 0), false), (.cmp .eql (.var 0) (.lit 0), false), (.cmp .eql (.var 2) (.lit 0), false)], .ret (.sint .i64 (.sel (.rvar 1) (.bin .add .i64 (.bin .mul .i64 (.bin .quo .i64 (.var 3) (.var 2)) (.var 2)) (.bin .sub .i64 (.bin .rem .i64 (.var 3) (.var 2)) (.lit 1))) 1 0)) ⟨0, .nil⟩), ([(.cmp .lss (.bin .add .i64 (.bin .mul .i64 (.bin .sub .i64 (.bin .quo .i64 (.var 3) (.var 2)) (.lit 1)) (.var 2)) (.bin .rem .i64 (.var 3) (.var 2))) (.lit 0), true), (.cmp .eql (.bin .quo .i64 (.var 3) (.var 2)) (.lit 0), false), (.cmp .eql (.var 0) (.lit 1), false), (.cmp .lss (.bin .add .i64 (.bin .mul .i64 (.bin .quo .i64 (.var 3) (.var 2)) (.var 2)) (.bin .sub .i64 (.bin .rem .i64 (.var 3) (.var 2)) (.lit 1))) (.rlen (.rvar 1) 1), true), (.cmp .lss (.bin .add .i64 (.bin .mul .i64 (.bin .quo .i64 (.var 3) (.var 2)) (.var 2)) (.bin .sub .i64 (.bin .rem .i64 (.var 3) (.var 2)) (.lit 1))) (.lit 0), false), (.cmp .eql (.bin .rem .i64 (.var 3) (.var 2)) (.lit 0), false), (.cmp .eql (.var 0) (.lit 0), false), (.cmp .eql (.var 2) (.lit 0), false)], .bad), ([(.cmp .lss (.bin .add .i64 (.bin .mul .i64 (.bin .sub .i64 (.bin .quo .i64 (.var 3) (.var 2)) (.lit 1)) (.var 2)) (.bin .sub .i64 (.bin .rem .i64 (.var 3) (.var 2)) (.lit 1))) (.lit 0), true), (.cmp .lss (.bin .add .i64 (.bin .mul .i64 (.bin .sub .i64 (.bin .quo .i64 (.var 3) (.var 2)) (.lit 1)) (.var 2)) (.bin .rem .i64 (.var 3) (.var 2))) (.rlen (.rvar 1) 1), true), (.cmp .lss (.bin .add .i64 (.bin .mul .i64 (.bin .sub .i64 (.bin .quo .i64 (.var 3) (.var 2)) (.lit 1)) (.var 2)) (.bin .rem .i64 (.var 3) (.var 2))) (.lit 0), false), (.cmp .eql (.bin .quo .i64 (.var 3) (.var 2)) (.lit 0), false), (.cmp .eql (.var 0) (.lit 1), false), (.cmp .lss (.bin .add .i64 (.bin .mul .i64 (.bin .quo .i64 (.var 3) (.var 2)) (.var 2)) (.bin .sub .i64 (.bin .rem .i64 (.var 3) (.var 2)) (.lit 1))) (.rlen (.rvar 1) 1), true), (.cmp .lss (.bin .add .i64 (.bin .mul .i64 (.bin .quo .i64 (.var 3) (.var 2)) (.var 2)) (.bin .sub .i64 (.bin .rem .i64 (.var 3) (.var 2)) (.lit 1))) (.lit 0), false), (.cmp .eql (.bin .rem .i64 (.var 3) (.var 2)) (.lit 0), false), (.cmp .eql (.var 0) (.lit 0), false), (.cmp .eql (.var 2) (.lit 0), false)], .bad), ([(.cmp .lss (.sel (.rvar 1) (.bin .add .i64 (.bin .mul .i64 (.bin .quo .i64 (.var 3) (.var 2)) (.var 2)) (.bin .sub .i64 (.bin .rem .i64 (.var 3) (.var 2)) (.lit 1))) 1 0) (.sel (.rvar 1) (.bin .add .i64 (.bin .mul .i64 (.bin .sub .i64 (.bin .quo .i64 (.var 3) (.var 2)) (.lit 1)) (.var 2)) (.bin .rem .i64 (.var 3) (.var 2))) 1 0), true), (.cmp .lss (.bin .sub .i64 (.bin .add .i64 (.sel (.rvar 1) (.bin .add .i64 (.bin .mul .i64 (.bin .quo .i64 (.var 3) (.var 2)) (.var 2)) (.bin .sub .i64 (.bin .rem .i64 (.var 3) (.var 2)) (.lit 1))) 1 0) (.sel (.rvar 1) (.bin .add .i64 (.bin .mul .i64 (.bin .sub .i64 (.bin .quo .i64 (.var 3) (.var 2)) (.lit 1)) (.var 2)) (.bin .rem .i64 (.var 3) (.var 2))) 1 0)) (.sel (.rvar 1) (.bin .add .i64 (.bin .mul .i64 (.bin .sub .i64 (.bin .quo .i64 (.var 3) (.var 2)) (.lit 1)) (.var 2)) (.bin .sub .i64 (.bin .rem .i64 (.var 3) (.var 2)) (.lit 1))) 1 0)) (.sel (.rvar 1) (.bin .add .i64 (.bin .mul .i64 (.bin .sub .i64 (.bin .quo .i64 (.var 3) (.var 2)) (.lit 1)) (.var 2)) (.bin .rem .i64 (.var 3) (.var 2))) 1 0), true), (.cmp .lss (.bin .sub .i64 (.bin .add .i64 (.sel (.rvar 1) (.bin .add .i64 (.bin .mul .i64 (.bin .quo .i64 (.var 3) (.var 2)) (.var 2)) (.bin .sub .i64 (.bin .rem .i64 (.var 3) (.var 2)) (.lit 1))) 1 0) (.sel (.rvar 1) (.bin .add .i64 (.bin .mul .i64 (.bin .sub .i64 (.bin .quo .i64 (.var 3) (.var 2)) (.lit 1)) (.var 2)) (.bin .rem .i64 (.var 3) (.var 2))) 1 0)) (.sel (.rvar 1) (.bin .add .i64 (.bin .mul .i64 (.bin .sub .i64 (.bin .quo .i64 (.var 3) (.var 2)) (.lit 1)) (.var 2)) (.bin .sub .i64 (.bin .rem .i64 (.var 3) (.var 2)) (.lit 1))) 1 0)) (.sel (.rvar 1) (.bin .add .i64 (.bin .mul .i64 (.bin .quo .i64 (.var 3) (.var 2)) (.var 2)) (.bin .sub .i64 (.bin .rem .i64 (.var 3) (.var 2)) (.lit 1))) 1 0), true), (.cmp .lss (.bin .add .i64 (.bin .mul .i64 (.bin .sub .i64 (.bin .quo .i64 (.var 3) (.var 2)) (.lit 1)) (.var 2)) (.bin .sub .i64 (.bin .rem .i64 (.var 3) (.var 2)) (.lit 1))) (.rlen (.rvar 1) 1), true), (.cmp .lss (.bin .add .i64 (.bin .mul .i64 (.bin .sub .i64 (.bin .quo .i64 (.var 3) (.var 2)) (.lit 1)) (.var 2)) (.bin .sub .i64 (.bin .rem .i64 (.var 3) (.var 2)) (.lit 1))) (.lit 0), false), (.cmp .lss (.bin .add .i64 (.bin .mul .i64 (.bin .sub .i64 (.bin .quo .i64 (.var 3) (.var 2)) (.lit 1)) (.var 2)) (.bin .rem .i64 (.var 3) (.var 2))) (.rlen (.rvar 1) 1), true), (.cmp .lss (.bin .add .i64 (.bin .mul .i64 (.bin .sub .i64 (.bin .quo .i64 (.var 3) (.var 2)) (.lit 1)) (.var 2)) (.bin .rem .i64 (.var 3) (.var 2))) (.lit 0), false), (.cmp .eql (.bin .quo .i64 (.var 3) (.var 2)) (.lit 0), false), (.cmp .eql (.var 0) (.lit 1), false), (.cmp .lss (.bin .add .i64 (.bin .mul .i64 (.bin .quo .i64 (.var 3) (.var 2)) (.var 2)) (.bin .sub .i64 (.bin .rem .i64 (.var 3) (.var 2)) (.lit 1))) (.rlen (.rvar 1) 1), true), (.cmp .lss (.bin .add .i64 (.bin .mul .i64 (.bin .quo .i64 (.var 3) (.var 2)) (.var 2)) (.bin .sub .i64 (.bin .rem .i64 (.var 3) (.var 2)) (.lit 1))) (.lit 0), false), (.cmp .eql (.bin .rem .i64 (.var 3) (.var 2)) (.lit 0), false), (.cmp .eql (.var 0) (.lit 0), false), (.cmp .eql (.var 2) (.lit 0), false)], .ret (.sint .i64 (.sel (.rvar 1) (.bin .add .i64 (.bin .mul .i64 (.bin .quo .i64 (.var 3) (.var 2)) (.var 2)) (.bin .sub .i64 (.bin .rem .i64 (.var 3) (.var 2)) (.lit 1))) 1 0)) ⟨0, .nil⟩), ([(.cmp .lss (.sel (.rvar 1) (.bin .add .i64 (.bin .mul .i64 (.bin .quo .i64 (.var 3) (.var 2)) (.var 2)) (.bin .sub .i64 (.bin .rem .i64 (.var 3) (.var 2)) (.lit 1))) 1 0) (.sel (.rvar 1) (.bin .add .i64 (.bin .mul .i64 (.bin .sub .i64 (.bin .quo .i64 (.var 3) (.var 2)) (.lit 1)) (.var 2)) (.bin .rem .i64 (.var 3) (.var 2))) 1 0), false), (.cmp .lss (.bin .sub .i64 (.bin .add .i64 (.sel (.rvar 1) (.bin .add .i64 (.bin .mul .i64 (.bin .quo .i64 (.var 3) (.var 2)) (.var 2)) (.bin .sub .i64 (.bin .rem .i64 (.var 3) (.var 2)) (.lit 1))) 1 0) (.sel (.rvar 1) (.bin .add .i64 (.bin .mul .i64 (.bin .sub .i64 (.bin .quo .i64 (.var 3) (.var 2)) (.lit 1)) (.var 2)) (.bin .rem .i64 (.var 3) (.var 2))) 1 0)) (.sel (.rvar 1) (.bin .add .i64 (.bin .mul .i64 (.bin .sub .i64 (.bin .quo .i64 (.var 3) (.var 2)) (.lit 1)) (.var 2)) (.bin .sub .i64 (.bin .rem .i64 (.var 3) (.var 2)) (.lit 1))) 1 0)) (.sel (.rvar 1) (.bin .add .i64 (.bin .mul .i64 (.bin .sub .i64 (.bin .quo .i64 (.var 3) (.var 2)) (.lit 1)) (.var 2)) (.bin .rem .i64 (.var 3) (.var 2))) 1 0), true), (.cmp .lss (.bin .sub .i64 (.bin .add .i64 (.sel (.rvar 1) (.bin .add .i64 (.bin .mul .i64 (.bin .quo .i64 (.var 3) (.var 2)) (.var 2)) (.bin .sub .i64 (.bin .rem .i64 (.var 3) (.var 2)) (.lit 1))) 1 0) (.sel (.rvar 1) (.bin .add .i64 (.bin .mul .i64 (.bin .sub .i64 (.bin .quo .i64 (.var 3) (.var 2)) (.lit 1)) (.var 2)) (.bin .rem .i64 (.var 3) (.var 2))) 1 0)) (.sel (.rvar 1) (.bin .add .i64 (.bin .mul .i64 (.bin .sub .i64 (.bin .quo .i64 (.var 3) (.var 2)) (.lit 1)) (.var 2)) (.bin .sub .i64 (.bin .rem .i64 (.var 3) (.var 2)) (.lit 1))) 1 0)) (.sel (.rvar 1) (.bin .add .i64 (.bin .mul .i64 (.bin .quo .i64 (.var 3) (.var 2)) (.var 2)) (.bin .sub .i64 (.bin .rem .i64 (.var 3) (.var 2)) (.lit 1))) 1 0), true), (.cmp .lss (.bin .add .i64 (.bin .mul .i64 (.bin .sub .i64 (.bin .quo .i64 (.var 3) (.var 2)) (.lit 1)) (.var 2)) (.bin .sub .i64 (.bin .rem .i64 (.var 3) (.var 2)) (.lit 1))) (.rlen (.rvar 1) 1), true), (.cmp .lss (.bin .add .i64 (.bin .mul .i64 (.bin .sub .i64 (.bin .quo .i64 (.var 3) (.var 2)) (.lit 1)) (.var 2)) (.bin .sub .i64 (.bin .rem .i64 (.var 3) (.var 2)) (.lit 1))) (.lit 0), false), (.cmp .lss (.bin .add .i64 (.bin .mul .i64 (.bin .sub .i64 (.bin .quo .i64 (.var 3) (.var 2)) (.lit 1)) (.var 2)) (.bin .rem .i64 (.var 3) (.var 2))) (.rlen (.rvar 1) 1), true), (.cmp .lss (.bin .add .i64 (.bin .mul .i64 (.bin .sub .i64 (.bin .quo .i64 (.var 3) (.var 2)) (.lit 1)) (.var 2)) (.bin .rem .i64 (.var 3) (.var 2))) (.lit 0), false), (.cmp .eql (.bin .quo .i64 (.var 3) (.var 2)) (.lit 0), false), (.cmp .eql (.var 0) (.lit 1), false), (.cmp .lss (.bin .add .i64 (.bin .mul .i64 (.bin .quo .i64 (.var 3) (.var 2)) (.var 2)) (.bin .sub .i64 (.bin .rem .i64 (.var 3) (.var 2)) (.lit 1))) (.rlen (.rvar 1) 1), true), (.cmp .lss (.bin .add .i64 (.bin .mul .i64 (.bin .quo .i64 (.var 3) (.var 2)) (.var 2)) (.bin .sub .i64 (.bin .rem .i64 (.var 3) (.var 2)) (.lit 1))) (.lit 0), false), (.cmp .eql (.bin .rem .i64 (.var 3) (.var 2)) (.lit 0), false), (.cmp .eql (.var 0) (.lit 0), false), (.cmp .eql (.var 2) (.lit 0), false)], .ret (.sint .i64 (.sel (.rvar 1) (.bin .add .i64 (.bin .mul .i64 (.bin .sub .i64 (.bin .quo .i64 (.var 3) (.var 2)) (.lit 1)) (.var 2)) (.bin .rem .i64 (.var 3) (.var 2))) 1 0)) ⟨0, .nil⟩), ([(.cmp .lss (.bin .sub .i64 (.bin .add .i64 (.sel (.rvar 1) (.bin .add .i64 (.bin .mul .i64 (.bin .quo .i64 (.var 3) (.var 2)) (.var 2)) (.bin .sub .i64 (.bin .rem .i64 (.var 3) (.var 2)) (.lit 1))) 1 0) (.sel (.rvar 1) (.bin .add .i64 (.bin .mul .i64 (.bin .sub .i64 (.bin .quo .i64 (.var 3) (.var 2)) (.lit 1)) (.var 2)) (.bin .rem .i64 (.var 3) (.var 2))) 1 0)) (.sel (.rvar 1) (.bin .add .i64 (.bin .mul .i64 (.bin .sub .i64 (.bin .quo .i64 (.var 3) (.var 2)) (.lit 1)) (.var 2)) (.bin .sub .i64 (.bin .rem .i64 (.var 3) (.var 2)) (.lit 1))) 1 0)) (.sel (.rvar 1) (.bin .add .i64 (.bin .mul .i64 (.bin .sub .i64 (.bin .quo .i64 (.var 3) (.var 2)) (.lit 1)) (.var 2)) (.bin .rem .i64 (.var 3) (.var 2))) 1 0), false), (.cmp .lss (.bin .sub .i64 (.bin .add .i64 (.sel (.rvar 1) (.bin .add .i64 (.bin .mul .i64 (.bin .quo .i64 (.var 3) (.var 2)) (.var 2)) (.bin .sub .i64 (.bin .rem .i64 (.var 3) (.var 2)) (.lit 1))) 1 0) (.sel (.rvar 1) (.bin .add .i64 (.bin .mul .i64 (.bin .sub .i64 (.bin .quo .i64 (.var 3) (.var 2)) (.lit 1)) (.var 2)) (.bin .rem .i64 (.var 3) (.var 2))) 1 0)) (.sel (.rvar 1) (.bin .add .i64 (.bin .mul .i64 (.bin .sub .i64 (.bin .quo .i64 (.var 3) (.var 2)) (.lit 1)) (.var 2)) (.bin .sub .i64 (.bin .rem .i64 (.var 3) (.var 2)) (.lit 1))) 1 0)) (.sel (.rvar 1) (.bin .add .i64 (.bin .mul .i64 (.bin .quo .i64 (.var 3) (.var 2)) (.var 2)) (.bin .sub .i64 (.bin .rem .i64 (.var 3) (.var 2)) (.lit 1))) 1 0), true), (.cmp .lss (.bin .add .i64 (.bin .mul .i64 (.bin .sub .i64 (.bin .quo .i64 (.var 3) (.var 2)) (.lit 1)) (.var 2)) (.bin .sub .i64 (.bin .rem .i64 (.var 3) (.var 2)) (.lit 1))) (.rlen (.rvar 1) 1), true), (.cmp .lss (.bin .add .i64 (.bin .mul .i64 (.bin .sub .i64 (.bin .quo .i64 (.var 3) (.var 2)) (.lit 1)) (.var 2)) (.bin .sub .i64 (.bin .rem .i64 (.var 3) (.var 2)) (.lit 1))) (.lit 0), false), (.cmp .lss (.bin .add .i64 (.bin .mul .i64 (.bin .sub .i64 (.bin .quo .i64 (.var 3) (.var 2)) (.lit 1)) (.var 2)) (.bin .rem .i64 (.var 3) (.var 2))) (.rlen (.rvar 1) 1), true), (.cmp .lss (.bin .add .i64 (.bin .mul .i64 (.bin .sub .i64 (.bin .quo .i64 (.var 3) (.var 2)) (.lit 1)) (.var 2)) (.bin .rem .i64 (.var 3) (.var 2))) (.lit 0), false), (.cmp .eql (.bin .quo .i64 (.var 3) (.var 2)) (.lit 0), false), (.cmp .eql (.var 0) (.lit 1), false), (.cmp .lss (.bin .add .i64 (.bin .mul .i64 (.bin .quo .i64 (.var 3) (.var 2)) (.var 2)) (.bin .sub .i64 (.bin .rem .i64 (.var 3) (.var 2)) (.lit 1))) (.rlen (.rvar 1) 1), true), (.cmp .lss (.bin .add .i64 (.bin .mul .i64 (.bin .quo .i64 (.var 3) (.var 2)) (.var 2)) (.bin .sub .i64 (.bin .rem .i64 (.var 3) (.var 2)) (.lit 1))) (.lit 0), false), (.cmp .eql (.bin .rem .i64 (.var 3) (.var 2)) (.lit 0), false), (.cmp .eql (.var 0) (.lit 0), false), (.cmp .eql (.var 2) (.lit 0), false)], .ret (.sint .i64 (.bin .sub .i64 (.bin .add .i64 (.sel (.rvar 1) (.bin .add .i64 (.bin .mul .i64 (.bin .quo .i64 (.var 3) (.var 2)) (.var 2)) (.bin .sub .i64 (.bin .rem .i64 (.var 3) (.var 2)) (.lit 1))) 1 0) (.sel (.rvar 1) (.bin .add .i64 (.bin .mul .i64 (.bin .sub .i64 (.bin .quo .i64 (.var 3) (.var 2)) (.lit 1)) (.var 2)) (.bin .rem .i64 (.var 3) (.var 2))) 1 0)) (.sel (.rvar 1) (.bin .add .i64 (.bin .mul .i64 (.bin .sub .i64 (.bin .quo .i64 (.var 3) (.var 2)) (.lit 1)) (.var 2)) (.bin .sub .i64 (.bin .rem .i64 (.var 3) (.var 2)) (.lit 1))) 1 0))) ⟨0, .nil⟩), ([(.cmp .lss (.sel (.rvar 1) (.bin .add .i64 (.bin .mul .i64 (.bin .sub .i64 (.bin .quo .i64 (.var 3) (.var 2)) (.lit 1)) (.var 2)) (.bin .rem .i64 (.var 3) (.var 2))) 1 0) (.sel (.rvar 1) (.bin .add .i64 (.bin .mul .i64 (.bin .quo .i64 (.var 3) (.var 2)) (.var 2)) (.bin .sub .i64 (.bin .rem .i64 (.var 3) (.var 2)) (.lit 1))) 1 0), true), (.cmp .lss (.sel (.rvar 1) (.bin .add .i64 (.bin .mul .i64 (.bin .sub .i64 (.bin .quo .i64 (.var 3) (.var 2)) (.lit 1)) (.var 2)) (.bin .rem .i64 (.var 3) (.var 2))) 1 0) (.bin .sub .i64 (.bin .add .i64 (.sel (.rvar 1) (.bin .add .i64 (.bin .mul .i64 (.bin .quo .i64 (.var 3) (.var 2)) (.var 2)) (.bin .sub .i64 (.bin .rem .i64 (.var 3) (.var 2)) (.lit 1))) 1 0) (.sel (.rvar 1) (.bin .add .i64 (.bin .mul .i64 (.bin .sub .i64 (.bin .quo .i64 (.var 3) (.var 2)) (.lit 1)) (.var 2)) (.bin .rem .i64 (.var 3) (.var 2))) 1 0)) (.sel (.rvar 1) (.bin .add .i64 (.bin .mul .i64 (.bin .sub .i64 (.bin .quo .i64 (.var 3) (.var 2)) (.lit 1)) (.var 2)) (.bin .sub .i64 (.bin .rem .i64 (.var 3) (.var 2)) (.lit 1))) 1 0)), true), (.cmp .lss (.sel (.rvar 1) (.bin .add .i64 (.bin .mul .i64 (.bin .quo .i64 (.var 3) (.var 2)) (.var 2)) (.bin .sub .i64 (.bin .rem .i64 (.var 3) (.var 2)) (.lit 1))) 1 0) (.bin .sub .i64 (.bin .add .i64 (.sel (.rvar 1) (.bin .add .i64 (.bin .mul .i64 (.bin .quo .i64 (.var 3) (.var 2)) (.var 2)) (.bin .sub .i64 (.bin .rem .i64 (.var 3) (.var 2)) (.lit 1))) 1 0) (.sel (.rvar 1) (.bin .add .i64 (.bin .mul .i64 (.bin .sub .i64 (.bin .quo .i64 (.var 3) (.var 2)) (.lit 1)) (.var 2)) (.bin .rem .i64 (.var 3) (.var 2))) 1 0)) (.sel (.rvar 1) (.bin .add .i64 (.bin .mul .i64 (.bin .sub .i64 (.bin .quo .i64 (.var 3) (.var 2)) (.lit 1)) (.var 2)) (.bin .sub .i64 (.bin .rem .i64 (.var 3) (.var 2)) (.lit 1))) 1 0)), true), (.cmp .lss (.bin .sub .i64 (.bin .add .i64 (.sel (.rvar 1) (.bin .add .i64 (.bin .mul .i64 (.bin .quo .i64 (.var 3) (.var 2)) (.var 2)) (.bin .sub .i64 (.bin .rem .i64 (.var 3) (.var 2)) (.lit 1))) 1 0) (.sel (.rvar 1) (.bin .add .i64 (.bin .mul .i64 (.bin .sub .i64 (.bin .quo .i64 (.var 3) (.var 2)) (.lit 1)) (.var 2)) (.bin .rem .i64 (.var 3) (.var 2))) 1 0)) (.sel (.rvar 1) (.bin .add .i64 (.bin .mul .i64 (.bin .sub .i64 (.bin .quo .i64 (.var 3) (.var 2)) (.lit 1)) (.var 2)) (.bin .sub .i64 (.bin .rem .i64 (.var 3) (.var 2)) (.lit 1))) 1 0)) (.sel (.rvar 1) (.bin .add .i64 (.bin .mul .i64 (.bin .quo .i64 (.var 3) (.var 2)) (.var 2)) (.bin .sub .i64 (.bin .rem .i64 (.var 3) (.var 2)) (.lit 1))) 1 0), false), (.cmp .lss (.bin .add .i64 (.bin .mul .i64 (.bin .sub .i64 (.bin .quo .i64 (.var 3) (.var 2)) (.lit 1)) (.var 2)) (.bin .sub .i64 (.bin .rem .i64 (.var 3) (.var 2)) (.lit 1))) (.rlen (.rvar 1) 1), true), (.cmp .lss (.bin .add .i64 (.bin .mul .i64 (.bin .sub .i64 (.bin .quo .i64 (.var 3) (.var 2)) (.lit 1)) (.var 2)) (.bin .sub .i64 (.bin .rem .i64 (.var 3) (.var 2)) (.lit 1))) (.lit 0), false), (.cmp .lss (.bin .add .i64 (.bin .mul .i64 (.bin .sub .i64 (.bin .quo .i64 (.var 3) (.var 2)) (.lit 1)) (.var 2)) (.bin .rem .i64 (.var 3) (.var 2))) (.rlen (.rvar 1) 1), true), (.cmp .lss (.bin .add .i64 (.bin .mul .i64 (.bin .sub .i64 (.bin .quo .i64 (.var 3) (.var 2)) (.lit 1)) (.var 2)) (.bin .rem .i64 (.var 3) (.var 2))) (.lit 0), false), (.cmp .eql (.bin .quo .i64 (.var 3) (.var 2)) (.lit 0), false), (.cmp .eql (.var 0) (.lit 1), false), (.cmp .lss (.bin .add .i64 (.bin .mul .i64 (.bin .quo .i64 (.var 3) (.var 2)) (.var 2)) (.bin .sub .i64 (.bin .rem .i64 (.var 3) (.var 2)) (.lit 1))) (.rlen (.rvar 1) 1), true), (.cmp .lss (.bin .add .i64 (.bin .mul .i64 (.bin .quo .i64 (.var 3) (.var 2)) (.var 2)) (.bin .sub .i64 (.bin .rem .i64 (.var 3) (.var 2)) (.lit 1))) (.lit 0), false), (.cmp .eql (.bin .rem .i64 (.var 3) (.var 2)) (.lit 0), false), (.cmp .eql (.var 0) (.lit 0), false), (.cmp .eql (.var 2) (.lit 0), false)], .ret (.sint .i64 (.sel (.rvar 1) (.bin .add .i64 (.bin .mul .i64 (.bin .quo .i64 (.var 3) (.var 2)) (.var 2)) (.bin .sub .i64 (.bin .rem .i64 (.var 3) (.var 2)) (.lit 1))) 1 0)) ⟨0, .nil⟩), ([(.cmp .lss (.sel (.rvar 1) (.bin .add .i64 (.bin .mul .i64 (.bin .sub .i64 (.bin .quo .i64 (.var 3) (.var 2)) (.lit 1)) (.var 2)) (.bin .rem .i64 (.var 3) (.var 2))) 1 0) (.sel (.rvar 1) (.bin .add .i64 (.bin .mul .i64 (.bin .quo .i64 (.var 3) (.var 2)) (.var 2)) (.bin .sub .i64 (.bin .rem .i64 (.var 3) (.var 2)) (.lit 1))) 1 0), false), (.cmp .lss (.sel (.rvar 1) (.bin .add .i64 (.bin .mul .i64 (.bin .sub .i64 (.bin .quo .i64 (.var 3) (.var 2)) (.lit 1)) (.var 2)) (.bin .rem .i64 (.var 3) (.var 2))) 1 0) (.bin .sub .i64 (.bin .add .i64 (.sel (.rvar 1) (.bin .add .i64 (.bin .mul .i64 (.bin .quo .i64 (.var 3) (.var 2)) (.var 2)) (.bin .sub .i64 (.bin .rem .i64 (.var 3) (.var 2)) (.lit 1))) 1 0) (.sel (.rvar 1) (.bin .add .i64 (.bin .mul .i64 (.bin .sub .i64 (.bin .quo .i64 (.var 3) (.var 2)) (.lit 1)) (.var 2)) (.bin .rem .i64 (.var 3) (.var 2))) 1 0)) (.sel (.rvar 1) (.bin .add .i64 (.bin .mul .i64 (.bin .sub .i64 (.bin .quo .i64 (.var 3) (.var 2)) (.lit 1)) (.var 2)) (.bin .sub .i64 (.bin .rem .i64 (.var 3) (.var 2)) (.lit 1))) 1 0)), true), (.cmp .lss (.sel (.rvar 1) (.bin .add .i64 (.bin .mul .i64 (.bin .quo .i64 (.var 3) (.var 2)) (.var 2)) (.bin .sub .i64 (.bin .rem .i64 (.var 3) (.var 2)) (.lit 1))) 1 0) (.bin .sub .i64 (.bin .add .i64 (.sel (.rvar 1) (.bin .add .i64 (.bin .mul .i64 (.bin .quo .i64 (.var 3) (.var 2)) (.var 2)) (.bin .sub .i64 (.bin .rem .i64 (.var 3) (.var 2)) (.lit 1))) 1 0) (.sel (.rvar 1) (.bin .add .i64 (.bin .mul .i64 (.bin .sub .i64 (.bin .quo .i64 (.var 3) (.var 2)) (.lit 1)) (.var 2)) (.bin .rem .i64 (.var 3) (.var 2))) 1 0)) (.sel (.rvar 1) (.bin .add .i64 (.bin .mul .i64 (.bin .sub .i64 (.bin .quo .i64 (.var 3) (.var 2)) (.lit 1)) (.var 2)) (.bin .sub .i64 (.bin .rem .i64 (.var 3) (.var 2)) (.lit 1))) 1 0)), true), (.cmp .lss (.bin .sub .i64 (.bin .add .i64 (.sel (.rvar 1) (.bin .add .i64 (.bin .mul .i64 (.bin .quo .i64 (.var 3) (.var 2)) (.var 2)) (.bin .sub .i64 (.bin .rem .i64 (.var 3) (.var 2)) (.lit 1))) 1 0) (.sel (.rvar 1) (.bin .add .i64 (.bin .mul .i64 (.bin .sub .i64 (.bin .quo .i64 (.var 3) (.var 2)) (.lit 1)) (.var 2)) (.bin .rem .i64 (.var 3) (.var 2))) 1 0)) (.sel (.rvar 1) (.bin .add .i64 (.bin .mul .i64 (.bin .sub .i64 (.bin .quo .i64 (.var 3) (.var 2)) (.lit 1)) (.var 2)) (.bin .sub .i64 (.bin .rem .i64 (.var 3) (.var 2)) (.lit 1))) 1 0)) (.sel (.rvar 1) (.bin .add .i64 (.bin .mul .i64 (.bin .quo .i64 (.var 3) (.var 2)) (.var 2)) (.bin .sub .i64 (.bin .rem .i64 (.var 3) (.var 2)) (.lit 1))) 1 0), false), (.cmp .lss (.bin .add .i64 (.bin .mul .i64 (.bin .sub .i64 (.bin .quo .i64 (.var 3) (.var 2)) (.lit 1)) (.var 2)) (.bin .sub .i64 (.bin .rem .i64 (.var 3) (.var 2)) (.lit 1))) (.rlen (.rvar 1) 1), true), (.cmp .lss (.bin .add .i64 (.bin .mul .i64 (.bin .sub .i64 (.bin .quo .i64 (.var 3) (.var 2)) (.lit 1)) (.var 2)) (.bin .sub .i64 (.bin .rem .i64 (.var 3) (.var 2)) (.lit 1))) (.lit 0), false), (.cmp .lss (.bin .add .i64 (.bin .mul .i64 (.bin .sub .i64 (.bin .quo .i64 (.var 3) (.var 2)) (.lit 1)) (.var 2)) (.bin .rem .i64 (.var 3) (.var 2))) (.rlen (.rvar 1) 1), true), (.cmp .lss (.bin .add .i64 (.bin .mul .i64 (.bin .sub .i64 (.bin .quo .i64 (.var 3) (.var 2)) (.lit 1)) (.var 2)) (.bin .rem .i64 (.var 3) (.var 2))) (.lit 0), false), (.cmp .eql (.bin .quo .i64 (.var 3) (.var 2)) (.lit 0), false), (.cmp .eql (.var 0) (.lit 1), false), (.cmp .lss (.bin .add .i64 (.bin .mul .i64 (.bin .quo .i64 (.var 3) (.var 2)) (.var 2)) (.bin .sub .i64 (.bin .rem .i64 (.var 3) (.var 2)) (.lit 1))) (.rlen (.rvar 1) 1), true), (.cmp .lss (.bin .add .i64 (.bin .mul .i64 (.bin .quo .i64 (.var 3) (.var 2)) (.var 2)) (.bin .sub .i64 (.bin .rem .i64 (.var 3) (.var 2)) (.lit 1))) (.lit 0), false), (.cmp .eql (.bin .rem .i64 (.var 3) (.var 2)) (.lit 0), false), (.cmp .eql (.var 0) (.lit 0), false), (.cmp .eql (.var 2) (.lit 0), false)], .ret (.sint .i64 (.sel (.rvar 1) (.bin .add .i64 (.bin .mul .i64 (.bin .sub .i64 (.bin .quo .i64 (.var 3) (.var 2)) (.lit 1)) (.var 2)) (.bin .rem .i64 (.var 3) (.var 2))) 1 0)) ⟨0, .nil⟩), ([(.cmp .lss (.sel (.rvar 1) (.bin .add .i64 (.bin .mul .i64 (.bin .sub .i64 (.bin .quo .i64 (.var 3) (.var 2)) (.lit 1)) (.var 2)) (.bin .rem .i64 (.var 3) (.var 2))) 1 0) (.bin .sub .i64 (.bin .add .i64 (.sel (.rvar 1) (.bin .add .i64 (.bin .mul .i64 (.bin .quo .i64 (.var 3) (.var 2)) (.var 2)) (.bin .sub .i64 (.bin .rem .i64 (.var 3) (.var 2)) (.lit 1))) 1 0) (.sel (.rvar 1) (.bin .add .i64 (.bin .mul .i64 (.bin .sub .i64 (.bin .quo .i64 (.var 3) (.var 2)) (.lit 1)) (.var 2)) (.bin .rem .i64 (.var 3) (.var 2))) 1 0)) (.sel (.rvar 1) (.bin .add .i64 (.bin .mul .i64 (.bin .sub .i64 (.bin .quo .i64 (.var 3) (.var 2)) (.lit 1)) (.var 2)) (.bin .sub .i64 (.bin .rem .i64 (.var 3) (.var 2)) (.lit 1))) 1 0)), false), (.cmp .lss (.sel (.rvar 1) (.bin .add .i64 (.bin .mul .i64 (.bin .quo .i64 (.var 3) (.var 2)) (.var 2)) (.bin .sub .i64 (.bin .rem .i64 (.var 3) (.var 2)) (.lit 1))) 1 0) (.bin .sub .i64 (.bin .add .i64 (.sel (.rvar 1) (.bin .add .i64 (.bin .mul .i64 (.bin .quo .i64 (.var 3) (.var 2)) (.var 2)) (.bin .sub .i64 (.bin .rem .i64 (.var 3) (.var 2)) (.lit 1))) 1 0) (.sel (.rvar 1) (.bin .add .i64 (.bin .mul .i64 (.bin .sub .i64 (.bin .quo .i64 (.var 3) (.var 2)) (.lit 1)) (.var 2)) (.bin .rem .i64 (.var 3) (.var 2))) 1 0)) (.sel (.rvar 1) (.bin .add .i64 (.bin .mul .i64 (.bin .sub .i64 (.bin .quo .i64 (.var 3) (.var 2)) (.lit 1)) (.var 2)) (.bin .sub .i64 (.bin .rem .i64 (.var 3) (.var 2)) (.lit 1))) 1 0)), true), (.cmp .lss (.bin .sub .i64 (.bin .add .i64 (.sel (.rvar 1) (.bin .add .i64 (.bin .mul .i64 (.bin .quo .i64 (.var 3) (.var 2)) (.var 2)) (.bin .sub .i64 (.bin .rem .i64 (.var 3) (.var 2)) (.lit 1))) 1 0) (.sel (.rvar 1) (.bin .add .i64 (.bin .mul .i64 (.bin .sub .i64 (.bin .quo .i64 (.var 3) (.var 2)) (.lit 1)) (.var 2)) (.bin .rem .i64 (.var 3) (.var 2))) 1 0)) (.sel (.rvar 1) (.bin .add .i64 (.bin .mul .i64 (.bin .sub .i64 (.bin .quo .i64 (.var 3) (.var 2)) (.lit 1)) (.var 2)) (.bin .sub .i64 (.bin .rem .i64 (.var 3) (.var 2)) (.lit 1))) 1 0)) (.sel (.rvar 1) (.bin .add .i64 (.bin .mul .i64 (.bin .quo .i64 (.var 3) (.var 2)) (.var 2)) (.bin .sub .i64 (.bin .rem .i64 (.var 3) (.var 2)) (.lit 1))) 1 0), false), (.cmp .lss (.bin .add .i64 (.bin .mul .i64 (.bin .sub .i64 (.bin .quo .i64 (.var 3) (.var 2)) (.lit 1)) (.var 2)) (.bin .sub .i64 (.bin .rem .i64 (.var 3) (.var 2)) (.lit 1))) (.rlen (.rvar 1) 1), true), (.cmp .lss (.bin .add .i64 (.bin .mul .i64 (.bin .sub .i64 (.bin .quo .i64 (.var 3) (.var 2)) (.lit 1)) (.var 2)) (.bin .sub .i64 (.bin .rem .i64 (.var 3) (.var 2)) (.lit 1))) (.lit 0), false), (.cmp .lss (.bin .add .i64 (.bin .mul .i64 (.bin .sub .i64 (.bin .quo .i64 (.var 3) (.var 2)) (.lit 1)) (.var 2)) (.bin .rem .i64 (.var 3) (.var 2))) (.rlen (.rvar 1) 1), true), (.cmp .lss (.bin .add .i64 (.bin .mul .i64 (.bin .sub .i64 (.bin .quo .i64 (.var 3) (.var 2)) (.lit 1)) (.var 2)) (.bin .rem .i64 (.var 3) (.var 2))) (.lit 0), false), (.cmp .eql (.bin .quo .i64 (.var 3) (.var 2)) (.lit 0), false), (.cmp .eql (.var 0) (.lit 1), false), (.cmp .lss (.bin .add .i64 (.bin .mul .i64 (.bin .quo .i64 (.var 3) (.var 2)) (.var 2)) (.bin .sub .i64 (.bin .rem .i64 (.var 3) (.var 2)) (.lit 1))) (.rlen (.rvar 1) 1), true), (.cmp .lss (.bin .add .i64 (.bin .mul .i64 (.bin .quo .i64 (.var 3) (.var 2)) (.var 2)) (.bin .sub .i64 (.bin .rem .i64 (.var 3) (.var 2)) (.lit 1))) (.lit 0), false), (.cmp .eql (.bin .rem .i64 (.var 3) (.var 2)) (.lit 0), false), (.cmp .eql (.var 0) (.lit 0), false), (.cmp .eql (.var 2) (.lit 0), false)], .ret (.sint .i64 (.bin .sub .i64 (.bin .add .i64 (.sel (.rvar 1) (.bin .add .i64 (.bin .mul .i64 (.bin .quo .i64 (.var 3) (.var 2)) (.var 2)) (.bin .sub .i64 (.bin .rem .i64 (.var 3) (.var 2)) (.lit 1))) 1 0) (.sel (.rvar 1) (.bin .add .i64 (.bin .mul .i64 (.bin .sub .i64 (.bin .quo .i64 (.var 3) (.var 2)) (.lit 1)) (.var 2)) (.bin .rem .i64 (.var 3) (.var 2))) 1 0)) (.sel (.rvar 1) (.bin .add .i64 (.bin .mul .i64 (.bin .sub .i64 (.bin .quo .i64 (.var 3) (.var 2)) (.lit 1)) (.var 2)) (.bin .sub .i64 (.bin .rem .i64 (.var 3) (.var 2)) (.lit 1))) 1 0))) ⟨0, .nil⟩), ([(.cmp .lss (.sel (.rvar 1) (.bin .add .i64 (.bin .mul .i64 (.bin .quo .i64 (.var 3) (.var 2)) (.var 2)) (.bin .sub .i64 (.bin .rem .i64 (.var 3) (.var 2)) (.lit 1))) 1 0) (.bin .sub .i64 (.bin .add .i64 (.sel (.rvar 1) (.bin .add .i64 (.bin .mul .i64 (.bin .quo .i64 (.var 3) (.var 2)) (.var 2)) (.bin .sub .i64 (.bin .rem .i64 (.var 3) (.var 2)) (.lit 1))) 1 0) (.sel (.rvar 1) (.bin .add .i64 (.bin .mul .i64 (.bin .sub .i64 (.bin .quo .i64 (.var 3) (.var 2)) (.lit 1)) (.var 2)) (.bin .rem .i64 (.var 3) (.var 2))) 1 0)) (.sel (.rvar 1) (.bin .add .i64 (.bin .mul .i64 (.bin .sub .i64 (.bin .quo .i64 (.var 3) (.var 2)) (.lit 1)) (.var 2)) (.bin .sub .i64 (.bin .rem .i64 (.var 3) (.var 2)) (.lit 1))) 1 0)), false), (.cmp .lss (.bin .sub .i64 (.bin .add .i64 (.sel (.rvar 1) (.bin .add .i64 (.bin .mul .i64 (.bin .quo .i64 (.var 3) (.var 2)) (.var 2)) (.bin .sub .i64 (.bin .rem .i64 (.var 3) (.var 2)) (.lit 1))) 1 0) (.sel (.rvar 1) (.bin .add .i64 (.bin .mul .i64 (.bin .sub .i64 (.bin .quo .i64 (.var 3) (.var 2)) (.lit 1)) (.var 2)) (.bin .rem .i64 (.var 3) (.var 2))) 1 0)) (.sel (.rvar 1) (.bin .add .i64 (.bin .mul .i64 (.bin .sub .i64 (.bin .quo .i64 (.var 3) (.var 2)) (.lit 1)) (.var 2)) (.bin .sub .i64 (.bin .rem .i64 (.var 3) (.var 2)) (.lit 1))) 1 0)) (.sel (.rvar 1) (.bin .add .i64 (.bin .mul .i64 (.bin .quo .i64 (.var 3) (.var 2)) (.var 2)) (.bin .sub .i64 (.bin .rem .i64 (.var 3) (.var 2)) (.lit 1))) 1 0), false), (.cmp .lss (.bin .add .i64 (.bin .mul .i64 (.bin .sub .i64 (.bin .quo .i64 (.var 3) (.var 2)) (.lit 1)) (.var 2)) (.bin .sub .i64 (.bin .rem .i64 (.var 3) (.var 2)) (.lit 1))) (.rlen (.rvar 1) 1), true), (.cmp .lss (.bin .add .i64 (.bin .mul .i64 (.bin .sub .i64 (.bin .quo .i64 (.var 3) (.var 2)) (.lit 1)) (.var 2)) (.bin .sub .i64 (.bin .rem .i64 (.var 3) (.var 2)) (.lit 1))) (.lit 0), false), (.cmp .lss (.bin .add .i64 (.bin .mul .i64 (.bin .sub .i64 (.bin .quo .i64 (.var 3) (.var 2)) (.lit 1)) (.var 2)) (.bin .rem .i64 (.var 3) (.var 2))) (.rlen (.rvar 1) 1), true), (.cmp .lss (.bin .add .i64 (.bin .mul .i64 (.bin .sub .i64 (.bin .quo .i64 (.var 3) (.var 2)) (.lit 1)) (.var 2)) (.bin .rem .i64 (.var 3) (.var 2))) (.lit 0), false), (.cmp .eql (.bin .quo .i64 (.var 3) (.var 2)) (.lit 0), false), (.cmp .eql (.var 0) (.lit 1), false), (.cmp .lss (.bin .add .i64 (.bin .mul .i64 (.bin .quo .i64 (.var 3) (.var 2)) (.var 2)) (.bin .sub .i64 (.bin .rem .i64 (.var 3) (.var 2)) (.lit 1))) (.rlen (.rvar 1) 1), true), (.cmp .lss (.bin .add .i64 (.bin .mul .i64 (.bin .quo .i64 (.var 3) (.var 2)) (.var 2)) (.bin .sub .i64 (.bin .rem .i64 (.var 3) (.var 2)) (.lit 1))) (.lit 0), false), (.cmp .eql (.bin .rem .i64 (.var 3) (.var 2)) (.lit 0), false), (.cmp .eql (.var 0) (.lit 0), false), (.cmp .eql (.var 2) (.lit 0), false)], .ret (.sint .i64 (.bin .sub .i64 (.bin .add .i64 (.sel (.rvar 1) (.bin .add .i64 (.bin .mul .i64 (.bin .quo .i64 (.var 3) (.var 2)) (.var 2)) (.bin .sub .i64 (.bin .rem .i64 (.var 3) (.var 2)) (.lit 1))) 1 0) (.sel (.rvar 1) (.bin .add .i64 (.bin .mul .i64 (.bin .sub .i64 (.bin .quo .i64 (.var 3) (.var 2)) (.lit 1)) (.var 2)) (.bin .rem .i64 (.var 3) (.var 2))) 1 0)) (.sel (.rvar 1) (.bin .add .i64 (.bin .mul .i64 (.bin .sub .i64 (.bin .quo .i64 (.var 3) (.var 2)) (.lit 1)) (.var 2)) (.bin .sub .i64 (.bin .rem .i64 (.var 3) (.var 2)) (.lit 1))) 1 0))) ⟨0, .nil⟩), ([(.cmp .lss (.bin .add .i64 (.bin .mul .i64 (.bin .sub .i64 (.bin .quo .i64 (.var 3) (.var 2)) (.lit 1)) (.var 2)) (.bin .sub .i64 (.bin .rem .i64 (.var 3) (.var 2)) (.lit 1))) (.rlen (.rvar 1) 1), false), (.cmp .lss (.bin .add .i64 (.bin .mul .i64 (.bin .sub .i64 (.bin .quo .i64 (.var 3) (.var 2)) (.lit 1)) (.var 2)) (.bin .sub .i64 (.bin .rem .i64 (.var 3) (.var 2)) (.lit 1))) (.lit 0), false), (.cmp .lss (.bin .add .i64 (.bin .mul .i64 (.bin .sub .i64 (.bin .quo .i64 (.var 3) (.var 2)) (.lit 1)) (.var 2)) (.bin .rem .i64 (.var 3) (.var 2))) (.rlen (.rvar 1) 1), true), (.cmp .lss (.bin .add .i64 (.bin .mul .i64 (.bin .sub .i64 (.bin .quo .i64 (.var 3) (.var 2)) (.lit 1)) (.var 2)) (.bin .rem .i64 (.var 3) (.var 2))) (.lit 0), false), (.cmp .eql (.bin .quo .i64 (.var 3) (.var 2)) (.lit 0), false), (.cmp .eql (.var 0) (.lit 1), false), (.cmp .lss (.bin .add .i64 (.bin .mul .i64 (.bin .quo .i64 (.var 3) (.var 2)) (.var 2)) (.bin .sub .i64 (.bin .rem .i64 (.var 3) (.var 2)) (.lit 1))) (.rlen (.rvar 1) 1), true), (.cmp .lss (.bin .add .i64 (.bin .mul .i64 (.bin .quo .i64 (.var 3) (.var 2)) (.var 2)) (.bin .sub .i64 (.bin .rem .i64 (.var 3) (.var 2)) (.lit 1))) (.lit 0), false), (.cmp .eql (.bin .rem .i64 (.var 3) (.var 2)) (.lit 0), false), (.cmp .eql (.var 0) (.lit 0), false), (.cmp .eql (.var 2) (.lit 0), false)], .bad), ([(.cmp .lss (.bin .add .i64 (.bin .mul .i64 (.bin .sub .i64 (.bin .quo .i64 (.var 3) (.var 2)) (.lit 1)) (.var 2)) (.bin .rem .i64 (.var 3) (.var 2))) (.rlen (.rvar 1) 1), false), (.cmp .lss (.bin .add .i64 (.bin .mul .i64 (.bin .sub .i64 (.bin .quo .i64 (.var 3) (.var 2)) (.lit 1)) (.var 2)) (.bin .rem .i64 (.var 3) (.var 2))) (.lit 0), false), (.cmp .eql (.bin .quo .i64 (.var 3) (.var 2)) (.lit 0), false), (.cmp .eql (.var 0) (.lit 1), false), (.cmp .lss (.bin .add .i64 (.bin .mul .i64 (.bin .quo .i64 (.var 3) (.var 2)) (.var 2)) (.bin .sub .i64 (.bin .rem .i64 (.var 3) (.var 2)) (.lit 1))) (.rlen (.rvar 1) 1), true), (.cmp .lss (.bin .add .i64 (.bin .mul .i64 (.bin .quo .i64 (.var 3) (.var 2)) (.var 2)) (.bin .sub .i64 (.bin .rem .i64 (.var 3) (.var 2)) (.lit 1))) (.lit 0), false), (.cmp .eql (.bin .rem .i64 (.var 3) (.var 2)) (.lit 0), false), (.cmp .eql (.var 0) (.lit 0), false), (.cmp .eql (.var 2) (.lit 0), false)], .bad), ([(.cmp .lss (.bin .add .i64 (.bin .mul .i64 (.bin .quo .i64 (.var 3) (.var 2)) (.var 2)) (.bin .sub .i64 (.bin .rem .i64 (.var 3) (.var 2)) (.lit 1))) (.rlen (.rvar 1) 1), false), (.cmp .lss (.bin .add .i64 (.bin .mul .i64 (.bin .quo .i64 (.var 3) (.var 2)) (.var 2)) (.bin .sub .i64 (.bin .rem .i64 (.var 3) (.var 2)) (.lit 1))) (.lit 0), false), (.cmp .eql (.bin .rem .i64 (.var 3) (.var 2)) (.lit 0), false), (.cmp .eql (.var 0) (.lit 0), false), (.cmp .eql (.var 2) (.lit 0), false)], .bad)] := by kernel_rfl

end Go.Proofs.Ytkfejcffacbngaa.J


namespace Go.Proofs.Ytkfejcffacbngaa.J

open Go Go.Sym

set_option linter.unusedVariables false

abbrev cl (l : List Int) (j : Int) : Int := selL l j 1 0
def clampG (L A C : Int) : Int := binI .lss .i64 (binI .gtr .i64 (L + A - C) (binI .lss .i64 L A)) (binI .gtr .i64 L A)
/-- what a cell is likely to be -/
def guessG (k : Int) (l : List Int) (w i : Int) : Int := if k = 0 ∨ i = 0 then 0 else if i % w = 0 then cl l (i - w) else if k = 1 ∨ i < w then cl l (i - 1) else clampG (cl l (i - 1)) (cl l (i - w)) (cl l (i - w - 1))
def mayG (k : Int) (l : List Int) (w i : Int) : Prop := 0 ≤ k ∧ k ≤ 2 ∧ 1 ≤ w ∧ w ≤ 1099511627776 ∧ 0 ≤ i ∧ i ≤ 1099511627776 ∧ i ≤ l.length ∧ ∀ j, 0 ≤ j → j < i → -2147483648 ≤ cl l j ∧ cl l j ≤ 2147483647

def g115 : List (List Int) → List Int
  | [[k], l, [w], [i]] => [guessG k l w i]
  | _ => []
open Classical in
noncomputable def g117 : List (List Int) → List Int
  | [[k], l, [w], [i]] => [if mayG k l w i then 1 else 0]
  | _ => []

noncomputable def FNx : Nat → List (List Int) → List Int
  | 115, l => g115 l
  | 117, l => g117 l
  | i, l => FNw i l

theorem FNx_117 {k : Int} {l : List Int} {w i : Int} (h : mayG k l w i) : FNx 117 [[k], l, [w], [i]] = [1] := by show [_] = _; rw [if_pos h]
theorem mayG_of {k : Int} {l : List Int} {w i : Int} (h : (FNx 117 [[k], l, [w], [i]]).headD 0 = 1) : mayG k l w i := by
  by_cases hb : mayG k l w i
  · exact hb
  · exfalso
    have : FNx 117 [[k], l, [w], [i]] = [0] := by show [_] = _; rw [if_neg hb]
    rw [this] at h; simp at h

def pcGuessP : Pc := ⟨122, [.int .i64, .sl [.i64], .int .i64, .int .i64], [.int .i64], 115, [], [117]⟩
def pcGuessD : Pc := ⟨124, [.int .i64, .sl [.i64], .int .i64, .int .i64], [.int .i64], 115, [], [117]⟩

theorem guess_nums {w i : Int} (hw : 1 ≤ w) (hw2 : w ≤ 1099511627776) (hi : 0 ≤ i) (hi2 : i ≤ 1099511627776) :
    binI .sub .i64 i w = i - w ∧ binI .sub .i64 i 1 = i - 1 ∧ binI .sub .i64 (i - w) 1 = i - w - 1 ∧ binI .rem .i64 i w = i % w ∧ binI .quo .i64 i w = i / w ∧ binI .sub .i64 (i / w) 1 = i / w - 1 ∧
    binI .mul .i64 (i / w - 1) w = i - i % w - w ∧ binI .mul .i64 (i / w) w = i - i % w ∧ binI .add .i64 (i - i % w - w) 0 = i - i % w - w ∧ binI .add .i64 (i - i % w - w) (i % w) = i - w ∧ binI .sub .i64 (i % w) 1 = i % w - 1 ∧
    binI .add .i64 (i - i % w) (i % w - 1) = i - 1 ∧ binI .add .i64 (i - i % w - w) (i % w - 1) = i - w - 1 ∧ (i / w = 0 ↔ i < w) ∧ 0 ≤ i % w ∧ i % w < w ∧ i % w ≤ i := by
  have hq0 : 0 ≤ i / w := Int.ediv_nonneg hi (by omega)
  have hr0 := Int.emod_nonneg i (show w ≠ 0 by omega)
  have hr1 := Int.emod_lt_of_pos i (show 0 < w by omega)
  have hd := Int.emod_add_mul_ediv i w
  have hq1 : i / w ≤ i := Int.ediv_le_self w hi
  have hm : (i / w - 1) * w = i - i % w - w := by rw [Int.sub_mul, Int.one_mul, Int.mul_comm]; omega
  have hm2 : (i / w) * w = i - i % w := by rw [Int.mul_comm]; omega
  have hmn : 0 ≤ (i / w) * w := Int.mul_nonneg hq0 (by omega)
  refine ⟨wrap_i64 (by omega), wrap_i64 (by omega), wrap_i64 (by omega), ?_, ?_, wrap_i64 (by omega), ?_, ?_, ?_, ?_, wrap_i64 (by omega), ?_, ?_, ?_, hr0, hr1, by omega⟩
  · show i.tmod w = _; rw [Int.tmod_eq_emod_of_nonneg hi]
  · show IntKind.i64.wrap (i.tdiv w) = _; rw [Int.tdiv_eq_ediv_of_nonneg hi]; exact wrap_i64 (by omega)
  · show IntKind.i64.wrap ((i / w - 1) * w) = _; rw [hm]; exact wrap_i64 (by omega)
  · show IntKind.i64.wrap ((i / w) * w) = _; rw [hm2]; exact wrap_i64 (by omega)
  · show IntKind.i64.wrap (i - i % w - w + 0) = _; rw [Int.add_zero]; exact wrap_i64 (by omega)
  · show IntKind.i64.wrap (i - i % w - w + i % w) = _; rw [wrap_i64 (by omega)]; omega
  · show IntKind.i64.wrap (i - i % w + (i % w - 1)) = _; rw [wrap_i64 (by omega)]; omega
  · show IntKind.i64.wrap (i - i % w - w + (i % w - 1)) = _; rw [wrap_i64 (by omega)]; omega
  · constructor
    · intro h; rw [h, Int.zero_mul] at hm2; omega
    · intro h; exact Int.ediv_eq_zero_of_lt hi h

end Go.Proofs.Ytkfejcffacbngaa.J


namespace Go.Proofs.Ytkfejcffacbngaa.J

open Go Go.Sym

set_option linter.unusedVariables false

set_option maxHeartbeats 2000000 in
theorem guessP_ok : PcOk Try.prog FNx pcGuessP := by
  intro w0 vs ls hargs hrng hpre
  refine pc_inst' mix pcGuessP (fun _ _ => knOk_nil) (by decide) guess_entry hargs fun e0 hf ha => ⟨(fun p hp => by cases hp), ?_⟩
  simp only [pcGuessP, ArgsE, ArgE] at ha
  obtain ⟨_, _, rfl, rfl, l, _, rfl, ⟨hl, _⟩, _, _, rfl, rfl, _, _, rfl, rfl, rfl⟩ := ha
  have hm := mayG_of hpre.1
  obtain ⟨k, hk⟩ : ∃ z, vInt (e0.val 0) = z := ⟨_, rfl⟩
  obtain ⟨w, hw⟩ : ∃ z, vInt (e0.val 2) = z := ⟨_, rfl⟩
  obtain ⟨i, hi⟩ : ∃ z, vInt (e0.val 3) = z := ⟨_, rfl⟩
  simp only [Nat.zero_add, Nat.reduceAdd, hk, hw, hi] at hm hl ⊢
  obtain ⟨m1, m2, m3, m4, m5, m6, m7, m8⟩ := hm
  obtain ⟨n1, n2, n3, n4, n5, n6, n7, n8, n9, n10, n11, n12, n13, n14, n15, n16, n17⟩ := guess_nums m3 m4 m5 m6
  have ret : ∀ (e : SV) (M : Mem), (∃ x, toIE e = some (IntKind.i64, x) ∧ x.eval e0 = guessG k l w i) → StepG FNx [[k], l, [w], [i]] pcGuessP.id pcGuessP.rks (fun _ _ => False) (fun _ _ => (0, 0)) none e0 (.ret e M) := by
    rintro e M ⟨x, h1, h2⟩
    exact ⟨[_], rfl, ⟨x, h1, by rw [h2]; rfl⟩, rfl⟩
  by_cases hz : k = 0 ∨ i = 0
  · have hg : guessG k l w i = 0 := by rw [guessG, if_pos hz]
    simp only [allLeaves, AsOk_cons, AsOk_nil, BE.eval, cmpI, IE.eval, IE.reval, hk, hw, hi, hl, n1, n2, n3, n4, Nat.div_one, and_true, decide_eq_true_eq, decide_eq_false_iff_not]
    refine ⟨fun hA => ret _ _ ⟨_, rfl, hg.symm⟩, fun hA => ret _ _ ⟨_, rfl, hg.symm⟩, ?_⟩
    repeat' refine And.intro (fun hA => ?_) ?_
    all_goals first | trivial | (exfalso; omega) | (intro hA; exfalso; omega)
  · have hg0 : guessG k l w i = if i % w = 0 then cl l (i - w) else if k = 1 ∨ i < w then cl l (i - 1) else clampG (cl l (i - 1)) (cl l (i - w)) (cl l (i - w - 1)) := by rw [guessG, if_neg hz]
    by_cases hr : i % w = 0
    · rw [if_pos hr] at hg0
      have hiw : w ≤ i := by
        have := Int.emod_add_mul_ediv i w
        by_cases h : w ≤ i
        · exact h
        · exfalso; have := Int.emod_eq_of_lt m5 (show i < w by omega); omega
      simp only [allLeaves, AsOk_cons, AsOk_nil, BE.eval, cmpI, IE.eval, IE.reval, hk, hw, hi, hl, n1, n2, n3, n4, Nat.div_one, and_true, decide_eq_true_eq, decide_eq_false_iff_not]
      repeat' refine And.intro (fun hA => ?_) ?_
      all_goals first | trivial | (exfalso; omega) | (intro hA; exfalso; omega) | (refine ret _ _ ⟨_, rfl, ?_⟩; simp only [IE.eval, IE.reval, hw, hi, hl, n1, hg0])
    · rw [if_neg hr] at hg0
      by_cases hs : k = 1 ∨ i < w
      · rw [if_pos hs] at hg0
        simp only [allLeaves, AsOk_cons, AsOk_nil, BE.eval, cmpI, IE.eval, IE.reval, hk, hw, hi, hl, n1, n2, n3, n4, Nat.div_one, and_true, decide_eq_true_eq, decide_eq_false_iff_not]
        repeat' refine And.intro (fun hA => ?_) ?_
        all_goals first | trivial | (exfalso; omega) | (intro hA; exfalso; omega) | (refine ret _ _ ⟨_, rfl, ?_⟩; simp only [IE.eval, IE.reval, hi, hl, n2, hg0])
      · rw [if_neg hs] at hg0
        have hiw : w < i := by
          by_cases h : i = w
          · exfalso; rw [h, Int.emod_self] at hr; exact hr rfl
          · omega
        have b1 := m8 (i - 1) (by omega) (by omega)
        have b2 := m8 (i - w) (by omega) (by omega)
        have b3 := m8 (i - w - 1) (by omega) (by omega)
        have a1 : binI .add .i64 (cl l (i - 1)) (cl l (i - w)) = cl l (i - 1) + cl l (i - w) := wrap_i64 (by omega)
        have a2 : binI .sub .i64 (cl l (i - 1) + cl l (i - w)) (cl l (i - w - 1)) = cl l (i - 1) + cl l (i - w) - cl l (i - w - 1) := wrap_i64 (by omega)
        simp only [allLeaves, AsOk_cons, AsOk_nil, BE.eval, cmpI, IE.eval, IE.reval, hk, hw, hi, hl, n1, n2, n3, n4, Nat.div_one, and_true, decide_eq_true_eq, decide_eq_false_iff_not]
        repeat' refine And.intro (fun hA => ?_) ?_
        all_goals first | trivial | (exfalso; omega) | (intro hA; exfalso; omega) | (refine ret _ _ ⟨_, rfl, ?_⟩; simp only [IE.eval, IE.reval, hw, hi, hl, n1, n2, n3, a1, a2, hg0, clampG])

end Go.Proofs.Ytkfejcffacbngaa.J


namespace Go.Proofs.Ytkfejcffacbngaa.J

open Go Go.Sym

set_option linter.unusedVariables false

set_option maxHeartbeats 4000000 in
theorem guessD_ok : PcOk Try.prog FNx pcGuessD := by
  intro w0 vs ls hargs hrng hpre
  refine pc_inst' mix pcGuessD (fun _ _ => knOk_nil) (by decide) guessR_entry hargs fun e0 hf ha => ⟨(fun p hp => by cases hp), ?_⟩
  simp only [pcGuessD, ArgsE, ArgE] at ha
  obtain ⟨_, _, rfl, rfl, l, _, rfl, ⟨hl, _⟩, _, _, rfl, rfl, _, _, rfl, rfl, rfl⟩ := ha
  have hm := mayG_of hpre.1
  obtain ⟨k, hk⟩ : ∃ z, vInt (e0.val 0) = z := ⟨_, rfl⟩
  obtain ⟨w, hw⟩ : ∃ z, vInt (e0.val 2) = z := ⟨_, rfl⟩
  obtain ⟨i, hi⟩ : ∃ z, vInt (e0.val 3) = z := ⟨_, rfl⟩
  simp only [Nat.zero_add, Nat.reduceAdd, hk, hw, hi] at hm hl ⊢
  obtain ⟨m1, m2, m3, m4, m5, m6, m7, m8⟩ := hm
  obtain ⟨n1, n2, n3, n4, n5, n6, n7, n8, n9, n10, n11, n12, n13, n14, n15, n16, n17⟩ := guess_nums m3 m4 m5 m6
  have ret : ∀ (e : SV) (M : Mem), (∃ x, toIE e = some (IntKind.i64, x) ∧ x.eval e0 = guessG k l w i) → StepG FNx [[k], l, [w], [i]] pcGuessD.id pcGuessD.rks (fun _ _ => False) (fun _ _ => (0, 0)) none e0 (.ret e M) := by
    rintro e M ⟨x, h1, h2⟩
    exact ⟨[_], rfl, ⟨x, h1, by rw [h2]; rfl⟩, rfl⟩
  by_cases hz : k = 0 ∨ i = 0
  · have hg : guessG k l w i = 0 := by rw [guessG, if_pos hz]
    simp only [allLeaves, AsOk_cons, AsOk_nil, BE.eval, cmpI, IE.eval, IE.reval, hk, hw, hi, hl, n4, n5, n6, n7, n8, n9, n10, n11, n12, n13, Nat.div_one, and_true, decide_eq_true_eq, decide_eq_false_iff_not]
    clear n1 n2 n3 n4 n5 n6 n7 n8 n9 n10 n11 n12 n13
    repeat' refine And.intro (fun hA => ?_) ?_
    all_goals first | trivial | (exfalso; omega) | (intro hA; exfalso; omega) | exact ret _ _ ⟨_, rfl, hg.symm⟩
  · have hg0 : guessG k l w i = if i % w = 0 then cl l (i - w) else if k = 1 ∨ i < w then cl l (i - 1) else clampG (cl l (i - 1)) (cl l (i - w)) (cl l (i - w - 1)) := by rw [guessG, if_neg hz]
    by_cases hr : i % w = 0
    · rw [if_pos hr] at hg0
      have hiw : w ≤ i := by
        by_cases h : w ≤ i
        · exact h
        · exfalso; have := Int.emod_eq_of_lt m5 (show i < w by omega); omega
      simp only [allLeaves, AsOk_cons, AsOk_nil, BE.eval, cmpI, IE.eval, IE.reval, hk, hw, hi, hl, n4, n5, n6, n7, n8, n9, n10, n11, n12, n13, Nat.div_one, and_true, decide_eq_true_eq, decide_eq_false_iff_not]
      have hx : i - i % w - w = i - w := by omega
      have hx0 : binI .add .i64 (i - w) 0 = i - w := by have := n9; rw [hx] at this; exact this
      repeat' refine And.intro (fun hA => ?_) ?_
      all_goals first | trivial | (exfalso; clear n1 n2 n3 n4 n5 n6 n7 n8 n9 n10 n11 n12 n13; omega) | (intro hA; exfalso; clear n1 n2 n3 n4 n5 n6 n7 n8 n9 n10 n11 n12 n13; omega) | (refine ret _ _ ⟨_, rfl, ?_⟩; simp only [IE.eval, IE.reval, hw, hi, hl, n5, n6, n7, hx, hx0, hg0])
    · rw [if_neg hr] at hg0
      by_cases hs : k = 1 ∨ i < w
      · rw [if_pos hs] at hg0
        simp only [allLeaves, AsOk_cons, AsOk_nil, BE.eval, cmpI, IE.eval, IE.reval, hk, hw, hi, hl, n4, n5, n6, n7, n8, n9, n10, n11, n12, n13, Nat.div_one, and_true, decide_eq_true_eq, decide_eq_false_iff_not]
        repeat' refine And.intro (fun hA => ?_) ?_
        all_goals first | trivial | (exfalso; clear n1 n2 n3 n4 n5 n6 n7 n8 n9 n10 n11 n12 n13; omega) | (intro hA; exfalso; clear n1 n2 n3 n4 n5 n6 n7 n8 n9 n10 n11 n12 n13; omega) | (refine ret _ _ ⟨_, rfl, ?_⟩; simp only [IE.eval, IE.reval, hw, hi, hl, n4, n5, n8, n11, n12, hg0])
      · rw [if_neg hs] at hg0
        have hiw : w < i := by
          by_cases h : i = w
          · exfalso; rw [h, Int.emod_self] at hr; exact hr rfl
          · omega
        have b1 := m8 (i - 1) (by omega) (by omega)
        have b2 := m8 (i - w) (by omega) (by omega)
        have b3 := m8 (i - w - 1) (by omega) (by omega)
        have a1 : binI .add .i64 (cl l (i - 1)) (cl l (i - w)) = cl l (i - 1) + cl l (i - w) := wrap_i64 (by omega)
        have a2 : binI .sub .i64 (cl l (i - 1) + cl l (i - w)) (cl l (i - w - 1)) = cl l (i - 1) + cl l (i - w) - cl l (i - w - 1) := wrap_i64 (by omega)
        simp only [cl] at b1 b2 b3 a1 a2 hg0
        simp only [allLeaves, AsOk_cons, AsOk_nil, BE.eval, cmpI, IE.eval, IE.reval, hk, hw, hi, hl, n4, n5, n6, n7, n8, n9, n10, n11, n12, n13, a1, a2, Nat.div_one, and_true, decide_eq_true_eq, decide_eq_false_iff_not]
        repeat' refine And.intro (fun hA => ?_) ?_
        all_goals first | trivial | (exfalso; clear n1 n2 n3 n4 n5 n6 n7 n8 n9 n10 n11 n12 n13 a1 a2; omega) | (intro hA; exfalso; clear n1 n2 n3 n4 n5 n6 n7 n8 n9 n10 n11 n12 n13 a1 a2; omega) | (refine ret _ _ ⟨_, rfl, ?_⟩; simp only [IE.eval, IE.reval, hw, hi, hl, n4, n5, n6, n7, n8, n10, n11, n12, n13, a1, a2, hg0, clampG]; clear n1 n2 n3 n4 n5 n6 n7 n8 n9 n10 n11 n12 n13 a1 a2; simp only [binI]; (repeat' split) <;> omega)

end Go.Proofs.Ytkfejcffacbngaa.J


namespace Go.Proofs.Ytkfejcffacbngaa.J

open Go Go.Sym

set_option linter.unusedVariables false

def pcRestsP : Pc := ⟨86, [.int .i64, .sl [.i64], .int .i64], [.sl 2 [.i64], .int .i64], 118, [(1, 0, 1048576), (2, 1, 1048576)], []⟩

abbrev n1E : IE := .rlen (.rvar 1) 1
abbrev preG (i : IE) : BE × Bool := (.cmp .eql (.app 117 (.acons (.rcons (.var 0) .rnil) (.acons (.rvar 1) (.acons (.rcons (.var 2) .rnil) (.acons (.rcons i .rnil) .anil))))) (.lit 1), true)
abbrev rowN : SV := .rsl (.own 0) (.lit 0) n1E 1
abbrev in1 : SV := .rsl (.ro 1 [.i64]) (.lit 0) n1E 1
abbrev cutRP : Cuts := [([0, 1, 0, 1, 1, 1], ⟨42, [(0, .sint .i64 (.var 0)), (1, in1), (2, .sint .i64 (.var 2)), (6, .nilslice), (7, .int .i64 0), (8, rowN), (19, rowN), (20, in1), (21, .sint .i64 n1E), (22, .sint .i64 (.var 3))], [(0, ⟨2, 0, [], .nil, true, some (.rvar 4, n1E, [.i64])⟩)], 1, [preG (.var 3), (nonneg (.var 3), true), (atmB n1E (.lit 1048576), true)]⟩)]

theorem restsP_entry : entryK Try.prog [pcGuessP.ct] 50 400 86 cutRP 3 (argSVs 0 pcRestsP.aks) 14 [(atmB n1E (.lit 1048576), true)] = some [([(.cmp .lss (.var 0) (.lit 0), true), (.not (.cmp .lss (.lit 1048576) (.rlen (.rvar 1) 1)), true)], .ret (.tuple [.nilslice, .int .i64 11]) ⟨0, .nil⟩), ([(.cmp .lss (.lit 2) (.var 0), true), (.cmp .lss (.var 0) (.lit 0), false), (.not (.cmp .lss (.lit 1048576) (.rlen (.rvar 1) 1)), true)], .ret (.tuple [.nilslice, .int .i64 11]) ⟨0, .nil⟩), ([(.cmp .lss (.var 2) (.lit 1), true), (.cmp .lss (.lit 2) (.var 0), false), (.cmp .lss (.var 0) (.lit 0), false), (.not (.cmp .lss (.lit 1048576) (.rlen (.rvar 1) 1)), true)], .ret (.tuple [.nilslice, .int .i64 11]) ⟨0, .nil⟩), ([(.cmp .eql (.bin .rem .i64 (.rlen (.rvar 1) 1) (.var 2)) (.lit 0), true), (.cmp .lss (.var 2) (.lit 1), false), (.cmp .lss (.lit 2) (.var 0), false), (.cmp .lss (.var 0) (.lit 0), false), (.not (.cmp .lss (.lit 1048576) (.rlen (.rvar 1) 1)), true)], .cut 0 ⟨[(3, .lit 0)], [(4, .rep (.rlen (.rvar 1) 1) (.rcon [0]))], [], [(0, 0)]⟩), ([(.cmp .eql (.bin .rem .i64 (.rlen (.rvar 1) 1) (.var 2)) (.lit 0), false), (.cmp .lss (.var 2) (.lit 1), false), (.cmp .lss (.lit 2) (.var 0), false), (.cmp .lss (.var 0) (.lit 0), false), (.not (.cmp .lss (.lit 1048576) (.rlen (.rvar 1) 1)), true)], .ret (.tuple [.nilslice, .int .i64 11]) ⟨0, .nil⟩)] := by kernel_rfl

theorem restsP_rounds : roundsK Try.prog [pcGuessP.ct] 50 400 86 cutRP 3 14 cutRP = some [[([(.cmp .lss (.sel (.rvar 1) (.var 3) 1 0) (.lit (-2147483648)), true), (.cmp .lss (.var 3) (.rlen (.rvar 1) 1), true), (.cmp .eql (.app 117 (.acons (.rcons (.var 0) .rnil) (.acons (.rvar 1) (.acons (.rcons (.var 2) .rnil) (.acons (.rcons (.var 3) .rnil) .anil))))) (.lit 1), true), (.not (.cmp .lss (.var 3) (.lit 0)), true), (.not (.cmp .lss (.lit 1048576) (.rlen (.rvar 1) 1)), true)], .ret (.tuple [.nilslice, .int .i64 7]) ⟨0, .nil⟩), ([(.cmp .lss (.lit 2147483647) (.sel (.rvar 1) (.var 3) 1 0), true), (.cmp .lss (.sel (.rvar 1) (.var 3) 1 0) (.lit (-2147483648)), false), (.cmp .lss (.var 3) (.rlen (.rvar 1) 1), true), (.cmp .eql (.app 117 (.acons (.rcons (.var 0) .rnil) (.acons (.rvar 1) (.acons (.rcons (.var 2) .rnil) (.acons (.rcons (.var 3) .rnil) .anil))))) (.lit 1), true), (.not (.cmp .lss (.var 3) (.lit 0)), true), (.not (.cmp .lss (.lit 1048576) (.rlen (.rvar 1) 1)), true)], .ret (.tuple [.nilslice, .int .i64 7]) ⟨0, .nil⟩), ([(.cmp .lss (.lit 2147483647) (.sel (.rvar 1) (.var 3) 1 0), false), (.cmp .lss (.sel (.rvar 1) (.var 3) 1 0) (.lit (-2147483648)), false), (.cmp .lss (.var 3) (.rlen (.rvar 1) 1), true), (.cmp .eql (.app 117 (.acons (.rcons (.var 0) .rnil) (.acons (.rvar 1) (.acons (.rcons (.var 2) .rnil) (.acons (.rcons (.var 3) .rnil) .anil))))) (.lit 1), true), (.not (.cmp .lss (.var 3) (.lit 0)), true), (.not (.cmp .lss (.lit 1048576) (.rlen (.rvar 1) 1)), true)], .cut 0 ⟨[(3, .bin .add .i64 (.var 3) (.lit 1))], [(4, .set (.rvar 4) (.var 3) 1 0 (.bin .sub .i64 (.sel (.rvar 1) (.var 3) 1 0) (.app 115 (.acons (.rcons (.var 0) .rnil) (.acons (.rvar 1) (.acons (.rcons (.var 2) .rnil) (.acons (.rcons (.var 3) .rnil) .anil)))))))], [], [(0, 0)]⟩), ([(.cmp .lss (.var 3) (.rlen (.rvar 1) 1), false), (.cmp .eql (.app 117 (.acons (.rcons (.var 0) .rnil) (.acons (.rvar 1) (.acons (.rcons (.var 2) .rnil) (.acons (.rcons (.var 3) .rnil) .anil))))) (.lit 1), true), (.not (.cmp .lss (.var 3) (.lit 0)), true), (.not (.cmp .lss (.lit 1048576) (.rlen (.rvar 1) 1)), true)], .ret (.tuple [.rsl (.own 0) (.lit 0) (.rlen (.rvar 1) 1) 1, .int .i64 0]) ⟨1, (.node (some ⟨2, 0, [], .nil, true, (some (.rvar 4, (.rlen (.rvar 1) 1, [.i64])))⟩) .nil .nil)⟩)]] := by kernel_rfl

end Go.Proofs.Ytkfejcffacbngaa.J


namespace Go.Proofs.Ytkfejcffacbngaa.J

open Go Go.Sym

set_option linter.unusedVariables false

abbrev rightG (k w n : Int) : Prop := 0 ≤ k ∧ k ≤ 2 ∧ 1 ≤ w ∧ n % w = 0
abbrev mayV (x : Int) : Prop := -2147483648 ≤ x ∧ x ≤ 2147483647
def restV (k : Int) (l : List Int) (w : Int) (j : Nat) : Int := cl l j - guessG k l w j
def restsL (k : Int) (l : List Int) (w : Int) (n : Nat) : List Int := (List.range n).map (restV k l w)

def restsM (k : Int) (l : List Int) (w : Int) : List Int × Int :=
  if ¬ rightG k w l.length then ([], 11) else if ¬ (∀ x ∈ l, mayV x) then ([], 7) else (restsL k l w l.length, 0)

def g118 : List (List Int) → List Int
  | [[k], l, [w]] => (restsM k l w).1
  | _ => []
def g119 : List (List Int) → List Int
  | [[k], l, [w]] => [(restsM k l w).2]
  | _ => []

noncomputable def FNy : Nat → List (List Int) → List Int
  | 118, l => g118 l
  | 119, l => g119 l
  | i, l => FNx i l

theorem FNy_115 (k : Int) (l : List Int) (w i : Int) : FNy 115 [[k], l, [w], [i]] = [guessG k l w i] := rfl
theorem FNy_117 {k : Int} {l : List Int} {w i : Int} (h : mayG k l w i) : FNy 117 [[k], l, [w], [i]] = [1] := FNx_117 h
theorem FNy_118 (k : Int) (l : List Int) (w : Int) : FNy 118 [[k], l, [w]] = (restsM k l w).1 := rfl
theorem FNy_119 (k : Int) (l : List Int) (w : Int) : FNy 119 [[k], l, [w]] = [(restsM k l w).2] := rfl

theorem x_y {c : Pc} (h : PcOk Try.prog FNx c) (h1 : ∀ i, i < c.rks.length → c.id + i ≠ 118 ∧ c.id + i ≠ 119) (h2 : ∀ i, i ∈ c.pre → i ≠ 118 ∧ i ≠ 119) : PcOk Try.prog FNy c := by
  have e : ∀ j, j ≠ 118 ∧ j ≠ 119 → FNy j = FNx j := fun j hj => by
    funext l
    unfold FNy
    split <;> first | omega | rfl
  exact h.cong (fun i hi => e _ (h1 i hi)) (fun i hi => e _ (h2 i hi))

theorem cl_get {l : List Int} {j : Nat} (h : j < l.length) : cl l (j : Int) = l[j] := by simp [selL, h]

theorem guess_may {k : Int} {l : List Int} {w i : Int} (h : mayG k l w i) : mayV (guessG k l w i) := by
  obtain ⟨m1, m2, m3, m4, m5, m6, m7, m8⟩ := h
  unfold guessG
  split
  · exact ⟨by omega, by omega⟩
  rename_i hz
  have hr0 := Int.emod_nonneg i (show w ≠ 0 by omega)
  split
  · rename_i hr
    have hiw : w ≤ i := by
      by_cases h : w ≤ i
      · exact h
      · exfalso; have := Int.emod_eq_of_lt m5 (show i < w by omega); omega
    exact m8 _ (by omega) (by omega)
  rename_i hr
  split
  · exact m8 _ (by omega) (by omega)
  · rename_i hs
    have hiw : w < i := by
      by_cases h : i = w
      · exfalso; rw [h, Int.emod_self] at hr; exact hr rfl
      · omega
    have b1 := m8 (i - 1) (by omega) (by omega)
    have b2 := m8 (i - w) (by omega) (by omega)
    simp only [clampG, binI]
    refine ⟨?_, ?_⟩
    · (repeat' split) <;> omega
    · (repeat' split) <;> omega

theorem restsL_succ (k : Int) (l : List Int) (w : Int) (n : Nat) : restsL k l w (n + 1) = restsL k l w n ++ [restV k l w n] := by
  simp [restsL, List.range_succ]
theorem restsL_len (k : Int) (l : List Int) (w : Int) (n : Nat) : (restsL k l w n).length = n := by simp [restsL]

theorem set_next {A : List Int} {i n : Nat} {x : Int} (hA : A.length = i) (h : i < n) : setL' (A ++ List.replicate (n - i) 0) (i : Int) 1 0 x = (A ++ [x]) ++ List.replicate (n - (i + 1)) 0 := by
  obtain ⟨m, hm⟩ : ∃ m, n - i = m + 1 := ⟨n - i - 1, by omega⟩
  rw [hm, show n - (i + 1) = m by omega, List.replicate_succ]
  simp only [setL', Int.toNat_natCast, Nat.mul_one, Nat.add_zero]
  rw [List.set_append_right _ _ (by omega), show i - A.length = 0 by omega]
  simp

def invRP (ls : List (List Int)) (c : Nat) (env : Env) : Prop := c = 0 ∧ ∃ (k : Int) (l : List Int) (w : Int) (i : Nat), ls = [[k], l, [w]] ∧ (l.length : Int) ≤ 1048576 ∧ rightG k w l.length ∧ w ≤ 1048576 ∧ vInt (env.val 0) = k ∧ env.row 1 = l ∧ vInt (env.val 2) = w ∧ vInt (env.val 3) = i ∧ i ≤ l.length ∧
  (∀ j : Nat, j < i → mayV (cl l j)) ∧ env.row 4 = restsL k l w i ++ List.replicate (l.length - i) 0

theorem mayG_at {k : Int} {l : List Int} {w : Int} {i : Nat} (h : rightG k w l.length) (hl : (l.length : Int) ≤ 1048576) (hw : w ≤ 1048576) (hi : i ≤ l.length) (hm : ∀ j : Nat, j < i → mayV (cl l j)) : mayG k l w i :=
  ⟨h.1, h.2.1, h.2.2.1, by omega, by omega, by omega, by omega, fun j h0 h1 => by have := hm j.toNat (by omega); rwa [show ((j.toNat : Nat) : Int) = j by omega] at this⟩

theorem decM {n m : Nat} (h : n < m) (hm : (m : Int) ≤ 1048576) : (2000000 - ((n + 1 : Nat) : Int)).toNat < (2000000 - (n : Int)).toNat := by
  generalize hK : (2000000 : Int) = K
  have : (n : Int) < K := by omega
  clear hK
  omega

theorem knRP_ok : ∀ env : Env, env.fn = FNy → KnOk Try.prog env [pcGuessP.ct] := fun env h => knOk_cons knOk_nil (Pc.ct_ok h (x_y guessP_ok (by decide) (by decide)))

set_option maxHeartbeats 1000000 in
theorem restsP_ok : PcOk Try.prog FNy pcRestsP := by
  refine pc_floyd_as (cs := cutRP) (base := 3) mix pcRestsP knRP_ok (Nat.le_refl 3) restsP_rounds restsP_entry invRP (fun ls _ env => (0, (2000000 - vInt (env.val 3)).toNat)) (fun ls i env h => by have := h.1; simp; omega) ?_
  intro ls e0 hf hargs hrng hpre
  simp only [pcRestsP, ArgsE, ArgE] at hargs
  obtain ⟨_, _, rfl, rfl, l, _, rfl, ⟨hl, _⟩, _, _, rfl, rfl, rfl⟩ := hargs
  have hlen := (hrng.1 (.sl [.i64]) l rfl rfl).2
  have hwr := hrng.2.1 (.int .i64) _ rfl rfl
  obtain ⟨k, hk⟩ : ∃ z, vInt (e0.val 0) = z := ⟨_, rfl⟩
  obtain ⟨w, hw⟩ : ∃ z, vInt (e0.val 2) = z := ⟨_, rfl⟩
  simp only [measL, List.length_singleton, Nat.div_one, Nat.zero_add, Nat.reduceAdd, hk, hw, List.headD_cons] at hlen hwr hl ⊢
  have ret : ∀ (env : Env) (code : Int) (o : Option (Nat × Nat)) (M : Mem), restsM k l w = ([], code) → StepG FNy [[k], l, [w]] pcRestsP.id pcRestsP.rks (invRP [[k], l, [w]]) (fun _ env => (0, (2000000 - vInt (env.val 3)).toNat)) o env (.ret (.tuple [.nilslice, .int .i64 code]) M) := by
    intro env code o M h
    refine ⟨[_, _], rfl, ⟨by decide, _, rfl, ?_, trivial⟩, ⟨_, rfl, ?_⟩, rfl⟩
    · simp only [IE.reval, pcRestsP, FNy_118, h]
    · simp only [IE.eval, pcRestsP, Nat.reduceAdd, FNy_119, h, List.headD_cons]
  have no11 : ¬ rightG k w l.length → restsM k l w = ([], 11) := fun h => by rw [restsM, if_pos h]
  refine ⟨?_, fun env hfn => ⟨⟨?_, trivial⟩, ⟨?_, trivial⟩⟩, ?_⟩
  · simp only [atmB, AsOk_cons, AsOk_nil, BE.eval, cmpI, IE.eval, IE.reval, hl, Nat.div_one]
    simp; omega
  · rintro ⟨_, k', l', w', i, hls, h1, h2, h3, q0, q1, q2, q3, h4, h5, q4⟩
    have hm := mayG_at h2 h1 h3 h4 h5
    simp only [preG, nonneg, atmB, AsOk_cons, AsOk_nil, BE.eval, cmpI, IE.eval, IE.reval, IE.aeval, hfn, q0, q1, q2, q3, FNy_117 hm, List.headD_cons, Nat.div_one]
    simp; omega
  · rintro ⟨_, k', l', w', i, hls, h1, h2, h3, q0, q1, q2, q3, h4, h5, q4⟩
    simp only [List.cons.injEq, and_true] at hls
    obtain ⟨rfl, rfl, rfl⟩ := hls
    have hm := mayG_at h2 h1 h3 h4 h5
    have hgm := guess_may hm
    have e1 : binI .add .i64 (i : Int) 1 = ((i + 1 : Nat) : Int) := by simp only [binI]; rw [wrap_i64 (by omega)]; omega
    have no7 : i < l.length → ¬ mayV (cl l i) → restsM k l w = ([], 7) := fun hlt h => by
      rw [restsM, if_neg (by simpa using h2), if_pos]
      intro ha
      rw [cl_get hlt] at h
      exact h (ha _ (List.getElem_mem hlt))
    simp only [allLeaves, AsOk_cons, AsOk_nil, BE.eval, cmpI, IE.eval, IE.reval, IE.aeval, hfn, q0, q1, q2, q3, FNy_117 hm, List.headD_cons, Nat.div_one, and_true, decide_true, decide_eq_true_eq, decide_eq_false_iff_not]
    refine ⟨fun hA => ret env 7 _ _ (no7 (by omega) (by simp only [mayV, cl]; omega)), fun hA => ret env 7 _ _ (no7 (by omega) (by simp only [mayV, cl]; omega)), fun hA => ?_, fun hA => ?_⟩
    · have hlt : i < l.length := by omega
      have hv : mayV (cl l i) := by simp only [mayV, cl]; omega
      have e2 : binI .sub .i64 (cl l i) (guessG k l w i) = restV k l w i := wrap_i64 (by omega)
      refine stepG_cut ⟨rfl, k, l, w, i + 1, rfl, h1, h2, h3, ?_, ?_, ?_, ?_, by omega, fun j hj => ?_, ?_⟩ (Prod.lex_def.2 (.inr ⟨rfl, ?_⟩))
      · simp [upd, lk_cons, lk_nil, q0]
      · simp [upd, lk_cons, lk_nil, q1]
      · simp [upd, lk_cons, lk_nil, q2]
      · simp [upd, lk_cons, lk_nil, IE.eval, q3, e1, vInt_int]
      · by_cases h : j = i
        · rw [h]; exact hv
        · exact h5 j (by omega)
      · simp only [upd, lk_cons, lk_nil, if_true, IE.eval, IE.reval, IE.aeval, hfn, q0, q1, q2, q3, q4, FNy_115, List.headD_cons]
        rw [e2, restsL_succ]
        exact set_next (restsL_len ..) hlt
      · simp only [upd, lk_cons, lk_nil, if_true, IE.eval, q3, e1, vInt_int]
        exact decM hlt hlen
    · obtain rfl : i = l.length := by omega
      have hg : restsM k l w = (restsL k l w l.length, 0) := by
        rw [restsM, if_neg (by simpa using h2), if_neg]
        simp only [Decidable.not_not]
        intro x hx
        obtain ⟨j, hj, rfl⟩ := List.mem_iff_getElem.1 hx
        have := h5 j hj
        rwa [cl_get hj] at this
      rw [Nat.sub_self, List.replicate_zero, List.append_nil] at q4
      have hl4 : (env.row 4).length = l.length := by rw [q4, restsL_len]
      refine ⟨[_, _], rfl, ⟨by decide, _, rfl, ?_, ?_⟩, ⟨_, rfl, ?_⟩, rfl⟩
      · rw [subE_eval (by simp only [IE.reval, IE.eval, q1, hl4]; simp)]
        simp only [IE.reval, IE.eval, q1, pcRestsP, FNy_118, hg, Nat.div_one]
        rw [q4]
        exact sub_all2 (restsL_len ..).symm
      · refine ⟨by simp only [IE.eval, IE.reval, q1, Nat.div_one]; omega, fun B r cnt ks' h1 h2 => ?_⟩
        obtain rfl := Option.some.inj h1
        cases h2
        exact Int.le_refl _
      · simp only [IE.eval, pcRestsP, Nat.reduceAdd, FNy_119, hg, List.headD_cons]
  · have eR : 1 ≤ w → binI .rem .i64 (l.length : Int) w = (l.length : Int) % w := fun h => by show (l.length : Int).tmod w = _; rw [Int.tmod_eq_emod_of_nonneg (by omega)]
    simp only [allLeaves, AsOk_cons, AsOk_nil, BE.eval, cmpI, IE.eval, IE.reval, hk, hw, hl, eR hwr.1, Nat.div_one, and_true, decide_eq_true_eq, decide_eq_false_iff_not]
    refine ⟨fun hA => ret e0 11 _ _ (no11 (by omega)), fun hA => ret e0 11 _ _ (no11 (by omega)), fun hA => ret e0 11 _ _ (no11 (by omega)), fun hA => ?_, fun hA => ret e0 11 _ _ (no11 fun h => hA.1 h.2.2.2)⟩
    refine stepG_cut0 ⟨rfl, k, l, w, 0, rfl, hlen, ⟨by omega, by omega, by omega, hA.1⟩, hwr.2, ?_, ?_, ?_, ?_, by omega, fun j hj => by omega, ?_⟩
    · simp [upd, lk_cons, lk_nil, hk]
    · simp [upd, lk_cons, lk_nil, hl]
    · simp [upd, lk_cons, lk_nil, hw]
    · simp [upd, lk_cons, lk_nil, IE.eval, vInt_int]
    · simp only [upd, lk_cons, lk_nil, if_true, IE.eval, IE.reval, hl, Nat.div_one, repL_rep]
      simp [restsL]

end Go.Proofs.Ytkfejcffacbngaa.J


namespace Go.Proofs.Ytkfejcffacbngaa.J

open Go Go.Sym

set_option linter.unusedVariables false

abbrev slRD : List (Nat × SV) := [(0, .sint .i64 (.var 0)), (1, in1), (2, .sint .i64 (.var 2)), (6, .nilslice), (7, .int .i64 0)]
abbrev asRD : As := [(nonneg (.var 3), true), (atmB n1E (.lit 1048576), true)]
end Go.Proofs.Ytkfejcffacbngaa.J


namespace Go.Proofs.Ytkfejcffacbngaa.J

open Go Go.Sym

set_option linter.unusedVariables false

end Go.Proofs.Ytkfejcffacbngaa.J


namespace Go.Proofs.Ytkfejcffacbngaa.J

open Go Go.Sym

set_option linter.unusedVariables false

def pcTPut : Pc := ⟨27, [.int .i64, .sl [.i64], .int .i64, .int .i64], [.sl 3 [.u8], .int .i64], 120, [(1, 0, 1048576)], []⟩

abbrev rsE : IE := .rapp 118 (.acons (.rcons (.var 0) .rnil) (.acons (.rvar 1) (.acons (.rcons (.var 2) .rnil) .anil)))
abbrev asTP : As := [(atmB n1E (.lit 1048576), true), ltR (.lit 1000000) (.rlen rsE 1) false, ltR (.lit 140737488355328) (.plus (.lit 1) (.rlen (.rapp 105 (.acons rsE .anil)) 1)) false, ltR (.lit 140737488355328) (.plus (.lit 1) (.rlen (.rapp 105 (.acons .rnil .anil)) 1)) false]

theorem tput_entry : entryK Try.prog [pcRestsP.ct, pcRPut.ct] 50 400 27 [] 4 (argSVs 0 pcTPut.aks) 14 asTP = some [([(.cmp .lss (.var 2) (.lit 1), true), (.not (.cmp .lss (.lit 1048576) (.rlen (.rvar 1) 1)), true), (.cmp .lss (.lit 1000000) (.rlen (.rapp 118 (.acons (.rcons (.var 0) .rnil) (.acons (.rvar 1) (.acons (.rcons (.var 2) .rnil) .anil)))) 1), false), (.cmp .lss (.lit 140737488355328) (.plus (.lit 1) (.rlen (.rapp 105 (.acons (.rapp 118 (.acons (.rcons (.var 0) .rnil) (.acons (.rvar 1) (.acons (.rcons (.var 2) .rnil) .anil)))) .anil)) 1)), false), (.cmp .lss (.lit 140737488355328) (.plus (.lit 1) (.rlen (.rapp 105 (.acons .rnil .anil)) 1)), false)], .ret (.tuple [.nilslice, .int .i64 3]) ⟨0, .nil⟩), ([(.cmp .lss (.lit 16) (.var 2), true), (.cmp .lss (.var 2) (.lit 1), false), (.not (.cmp .lss (.lit 1048576) (.rlen (.rvar 1) 1)), true), (.cmp .lss (.lit 1000000) (.rlen (.rapp 118 (.acons (.rcons (.var 0) .rnil) (.acons (.rvar 1) (.acons (.rcons (.var 2) .rnil) .anil)))) 1), false), (.cmp .lss (.lit 140737488355328) (.plus (.lit 1) (.rlen (.rapp 105 (.acons (.rapp 118 (.acons (.rcons (.var 0) .rnil) (.acons (.rvar 1) (.acons (.rcons (.var 2) .rnil) .anil)))) .anil)) 1)), false), (.cmp .lss (.lit 140737488355328) (.plus (.lit 1) (.rlen (.rapp 105 (.acons .rnil .anil)) 1)), false)], .ret (.tuple [.nilslice, .int .i64 3]) ⟨0, .nil⟩), ([(.cmp .lss (.var 3) (.lit 1), true), (.cmp .lss (.lit 16) (.var 2), false), (.cmp .lss (.var 2) (.lit 1), false), (.not (.cmp .lss (.lit 1048576) (.rlen (.rvar 1) 1)), true), (.cmp .lss (.lit 1000000) (.rlen (.rapp 118 (.acons (.rcons (.var 0) .rnil) (.acons (.rvar 1) (.acons (.rcons (.var 2) .rnil) .anil)))) 1), false), (.cmp .lss (.lit 140737488355328) (.plus (.lit 1) (.rlen (.rapp 105 (.acons (.rapp 118 (.acons (.rcons (.var 0) .rnil) (.acons (.rvar 1) (.acons (.rcons (.var 2) .rnil) .anil)))) .anil)) 1)), false), (.cmp .lss (.lit 140737488355328) (.plus (.lit 1) (.rlen (.rapp 105 (.acons .rnil .anil)) 1)), false)], .ret (.tuple [.nilslice, .int .i64 3]) ⟨0, .nil⟩), ([(.cmp .lss (.lit 16) (.var 3), true), (.cmp .lss (.var 3) (.lit 1), false), (.cmp .lss (.lit 16) (.var 2), false), (.cmp .lss (.var 2) (.lit 1), false), (.not (.cmp .lss (.lit 1048576) (.rlen (.rvar 1) 1)), true), (.cmp .lss (.lit 1000000) (.rlen (.rapp 118 (.acons (.rcons (.var 0) .rnil) (.acons (.rvar 1) (.acons (.rcons (.var 2) .rnil) .anil)))) 1), false), (.cmp .lss (.lit 140737488355328) (.plus (.lit 1) (.rlen (.rapp 105 (.acons (.rapp 118 (.acons (.rcons (.var 0) .rnil) (.acons (.rvar 1) (.acons (.rcons (.var 2) .rnil) .anil)))) .anil)) 1)), false), (.cmp .lss (.lit 140737488355328) (.plus (.lit 1) (.rlen (.rapp 105 (.acons .rnil .anil)) 1)), false)], .ret (.tuple [.nilslice, .int .i64 3]) ⟨0, .nil⟩), ([(.cmp .lss (.var 0) (.lit 0), true), (.cmp .lss (.lit 16) (.var 3), false), (.cmp .lss (.var 3) (.lit 1), false), (.cmp .lss (.lit 16) (.var 2), false), (.cmp .lss (.var 2) (.lit 1), false), (.not (.cmp .lss (.lit 1048576) (.rlen (.rvar 1) 1)), true), (.cmp .lss (.lit 1000000) (.rlen (.rapp 118 (.acons (.rcons (.var 0) .rnil) (.acons (.rvar 1) (.acons (.rcons (.var 2) .rnil) .anil)))) 1), false), (.cmp .lss (.lit 140737488355328) (.plus (.lit 1) (.rlen (.rapp 105 (.acons (.rapp 118 (.acons (.rcons (.var 0) .rnil) (.acons (.rvar 1) (.acons (.rcons (.var 2) .rnil) .anil)))) .anil)) 1)), false), (.cmp .lss (.lit 140737488355328) (.plus (.lit 1) (.rlen (.rapp 105 (.acons .rnil .anil)) 1)), false)], .ret (.tuple [.nilslice, .int .i64 11]) ⟨0, .nil⟩), ([(.cmp .lss (.lit 2) (.var 0), true), (.cmp .lss (.var 0) (.lit 0), false), (.cmp .lss (.lit 16) (.var 3), false), (.cmp .lss (.var 3) (.lit 1), false), (.cmp .lss (.lit 16) (.var 2), false), (.cmp .lss (.var 2) (.lit 1), false), (.not (.cmp .lss (.lit 1048576) (.rlen (.rvar 1) 1)), true), (.cmp .lss (.lit 1000000) (.rlen (.rapp 118 (.acons (.rcons (.var 0) .rnil) (.acons (.rvar 1) (.acons (.rcons (.var 2) .rnil) .anil)))) 1), false), (.cmp .lss (.lit 140737488355328) (.plus (.lit 1) (.rlen (.rapp 105 (.acons (.rapp 118 (.acons (.rcons (.var 0) .rnil) (.acons (.rvar 1) (.acons (.rcons (.var 2) .rnil) .anil)))) .anil)) 1)), false), (.cmp .lss (.lit 140737488355328) (.plus (.lit 1) (.rlen (.rapp 105 (.acons .rnil .anil)) 1)), false)], .ret (.tuple [.nilslice, .int .i64 11]) ⟨0, .nil⟩), ([(.cmp .lss (.lit 0) (.rlen (.rapp 102 (.acons (.rcons (.wrap .u8 (.var 0)) .rnil) (.acons (.rapp 118 (.acons (.rcons (.var 0) .rnil) (.acons (.rvar 1) (.acons (.rcons (.var 2) .rnil) .anil)))) .anil))) 1), true), (.cmp .eql (.app 119 (.acons (.rcons (.var 0) .rnil) (.acons (.rvar 1) (.acons (.rcons (.var 2) .rnil) .anil)))) (.lit 0), true), (.cmp .lss (.lit 0) (.rlen (.rapp 118 (.acons (.rcons (.var 0) .rnil) (.acons (.rvar 1) (.acons (.rcons (.var 2) .rnil) .anil)))) 1), true), (.cmp .eql (.rlen (.rvar 1) 1) (.bin .mul .i64 (.var 2) (.var 3)), true), (.cmp .lss (.lit 2) (.var 0), false), (.cmp .lss (.var 0) (.lit 0), false), (.cmp .lss (.lit 16) (.var 3), false), (.cmp .lss (.var 3) (.lit 1), false), (.cmp .lss (.lit 16) (.var 2), false), (.cmp .lss (.var 2) (.lit 1), false), (.not (.cmp .lss (.lit 1048576) (.rlen (.rvar 1) 1)), true), (.cmp .lss (.lit 1000000) (.rlen (.rapp 118 (.acons (.rcons (.var 0) .rnil) (.acons (.rvar 1) (.acons (.rcons (.var 2) .rnil) .anil)))) 1), false), (.cmp .lss (.lit 140737488355328) (.plus (.lit 1) (.rlen (.rapp 105 (.acons (.rapp 118 (.acons (.rcons (.var 0) .rnil) (.acons (.rvar 1) (.acons (.rcons (.var 2) .rnil) .anil)))) .anil)) 1)), false), (.cmp .lss (.lit 140737488355328) (.plus (.lit 1) (.rlen (.rapp 105 (.acons .rnil .anil)) 1)), false)], .ret (.tuple [.rsl (.own 2) (.lit 0) (.rlen (.rapp 102 (.acons (.rcons (.wrap .u8 (.var 0)) .rnil) (.acons (.rapp 118 (.acons (.rcons (.var 0) .rnil) (.acons (.rvar 1) (.acons (.rcons (.var 2) .rnil) .anil)))) .anil))) 1) 1, .int .i64 0]) ⟨3, (.node (some ⟨2, 0, [], .nil, true, (some (.rapp 118 (.acons (.rcons (.var 0) .rnil) (.acons (.rvar 1) (.acons (.rcons (.var 2) .rnil) .anil))), (.rlen (.rapp 118 (.acons (.rcons (.var 0) .rnil) (.acons (.rvar 1) (.acons (.rcons (.var 2) .rnil) .anil)))) 1, [.i64])))⟩) (.node (some ⟨5, 1, [.sint .u8 (.wrap .u8 (.var 0))], .nil, false, none⟩) .nil .nil) (.node (some ⟨5, 0, [], .nil, true, (some (.rapp 102 (.acons (.rcons (.wrap .u8 (.var 0)) .rnil) (.acons (.rapp 118 (.acons (.rcons (.var 0) .rnil) (.acons (.rvar 1) (.acons (.rcons (.var 2) .rnil) .anil)))) .anil)), (.rlen (.rapp 102 (.acons (.rcons (.wrap .u8 (.var 0)) .rnil) (.acons (.rapp 118 (.acons (.rcons (.var 0) .rnil) (.acons (.rvar 1) (.acons (.rcons (.var 2) .rnil) .anil)))) .anil))) 1, [.u8])))⟩) .nil .nil))⟩), ([(.cmp .lss (.lit 0) (.rlen (.rapp 102 (.acons (.rcons (.wrap .u8 (.var 0)) .rnil) (.acons (.rapp 118 (.acons (.rcons (.var 0) .rnil) (.acons (.rvar 1) (.acons (.rcons (.var 2) .rnil) .anil)))) .anil))) 1), false), (.cmp .eql (.app 119 (.acons (.rcons (.var 0) .rnil) (.acons (.rvar 1) (.acons (.rcons (.var 2) .rnil) .anil)))) (.lit 0), true), (.cmp .lss (.lit 0) (.rlen (.rapp 118 (.acons (.rcons (.var 0) .rnil) (.acons (.rvar 1) (.acons (.rcons (.var 2) .rnil) .anil)))) 1), true), (.cmp .eql (.rlen (.rvar 1) 1) (.bin .mul .i64 (.var 2) (.var 3)), true), (.cmp .lss (.lit 2) (.var 0), false), (.cmp .lss (.var 0) (.lit 0), false), (.cmp .lss (.lit 16) (.var 3), false), (.cmp .lss (.var 3) (.lit 1), false), (.cmp .lss (.lit 16) (.var 2), false), (.cmp .lss (.var 2) (.lit 1), false), (.not (.cmp .lss (.lit 1048576) (.rlen (.rvar 1) 1)), true), (.cmp .lss (.lit 1000000) (.rlen (.rapp 118 (.acons (.rcons (.var 0) .rnil) (.acons (.rvar 1) (.acons (.rcons (.var 2) .rnil) .anil)))) 1), false), (.cmp .lss (.lit 140737488355328) (.plus (.lit 1) (.rlen (.rapp 105 (.acons (.rapp 118 (.acons (.rcons (.var 0) .rnil) (.acons (.rvar 1) (.acons (.rcons (.var 2) .rnil) .anil)))) .anil)) 1)), false), (.cmp .lss (.lit 140737488355328) (.plus (.lit 1) (.rlen (.rapp 105 (.acons .rnil .anil)) 1)), false)], .ret (.tuple [.e0, .int .i64 0]) ⟨0, .nil⟩), ([(.cmp .eql (.app 119 (.acons (.rcons (.var 0) .rnil) (.acons (.rvar 1) (.acons (.rcons (.var 2) .rnil) .anil)))) (.lit 0), false), (.cmp .lss (.lit 0) (.rlen (.rapp 118 (.acons (.rcons (.var 0) .rnil) (.acons (.rvar 1) (.acons (.rcons (.var 2) .rnil) .anil)))) 1), true), (.cmp .eql (.rlen (.rvar 1) 1) (.bin .mul .i64 (.var 2) (.var 3)), true), (.cmp .lss (.lit 2) (.var 0), false), (.cmp .lss (.var 0) (.lit 0), false), (.cmp .lss (.lit 16) (.var 3), false), (.cmp .lss (.var 3) (.lit 1), false), (.cmp .lss (.lit 16) (.var 2), false), (.cmp .lss (.var 2) (.lit 1), false), (.not (.cmp .lss (.lit 1048576) (.rlen (.rvar 1) 1)), true), (.cmp .lss (.lit 1000000) (.rlen (.rapp 118 (.acons (.rcons (.var 0) .rnil) (.acons (.rvar 1) (.acons (.rcons (.var 2) .rnil) .anil)))) 1), false), (.cmp .lss (.lit 140737488355328) (.plus (.lit 1) (.rlen (.rapp 105 (.acons (.rapp 118 (.acons (.rcons (.var 0) .rnil) (.acons (.rvar 1) (.acons (.rcons (.var 2) .rnil) .anil)))) .anil)) 1)), false), (.cmp .lss (.lit 140737488355328) (.plus (.lit 1) (.rlen (.rapp 105 (.acons .rnil .anil)) 1)), false)], .ret (.tuple [.nilslice, .sint .i64 (.app 119 (.acons (.rcons (.var 0) .rnil) (.acons (.rvar 1) (.acons (.rcons (.var 2) .rnil) .anil))))]) ⟨0, .nil⟩), ([(.cmp .lss (.lit 0) (.rlen (.rapp 102 (.acons (.rcons (.wrap .u8 (.var 0)) .rnil) (.acons .rnil .anil))) 1), true), (.cmp .eql (.app 119 (.acons (.rcons (.var 0) .rnil) (.acons (.rvar 1) (.acons (.rcons (.var 2) .rnil) .anil)))) (.lit 0), true), (.cmp .lss (.lit 0) (.rlen (.rapp 118 (.acons (.rcons (.var 0) .rnil) (.acons (.rvar 1) (.acons (.rcons (.var 2) .rnil) .anil)))) 1), false), (.cmp .eql (.rlen (.rvar 1) 1) (.bin .mul .i64 (.var 2) (.var 3)), true), (.cmp .lss (.lit 2) (.var 0), false), (.cmp .lss (.var 0) (.lit 0), false), (.cmp .lss (.lit 16) (.var 3), false), (.cmp .lss (.var 3) (.lit 1), false), (.cmp .lss (.lit 16) (.var 2), false), (.cmp .lss (.var 2) (.lit 1), false), (.not (.cmp .lss (.lit 1048576) (.rlen (.rvar 1) 1)), true), (.cmp .lss (.lit 1000000) (.rlen (.rapp 118 (.acons (.rcons (.var 0) .rnil) (.acons (.rvar 1) (.acons (.rcons (.var 2) .rnil) .anil)))) 1), false), (.cmp .lss (.lit 140737488355328) (.plus (.lit 1) (.rlen (.rapp 105 (.acons (.rapp 118 (.acons (.rcons (.var 0) .rnil) (.acons (.rvar 1) (.acons (.rcons (.var 2) .rnil) .anil)))) .anil)) 1)), false), (.cmp .lss (.lit 140737488355328) (.plus (.lit 1) (.rlen (.rapp 105 (.acons .rnil .anil)) 1)), false)], .ret (.tuple [.rsl (.own 1) (.lit 0) (.rlen (.rapp 102 (.acons (.rcons (.wrap .u8 (.var 0)) .rnil) (.acons .rnil .anil))) 1) 1, .int .i64 0]) ⟨2, (.node (some ⟨5, 1, [.sint .u8 (.wrap .u8 (.var 0))], .nil, false, none⟩) (.node (some ⟨5, 0, [], .nil, true, (some (.rapp 102 (.acons (.rcons (.wrap .u8 (.var 0)) .rnil) (.acons .rnil .anil)), (.rlen (.rapp 102 (.acons (.rcons (.wrap .u8 (.var 0)) .rnil) (.acons .rnil .anil))) 1, [.u8])))⟩) .nil .nil) .nil)⟩), ([(.cmp .lss (.lit 0) (.rlen (.rapp 102 (.acons (.rcons (.wrap .u8 (.var 0)) .rnil) (.acons .rnil .anil))) 1), false), (.cmp .eql (.app 119 (.acons (.rcons (.var 0) .rnil) (.acons (.rvar 1) (.acons (.rcons (.var 2) .rnil) .anil)))) (.lit 0), true), (.cmp .lss (.lit 0) (.rlen (.rapp 118 (.acons (.rcons (.var 0) .rnil) (.acons (.rvar 1) (.acons (.rcons (.var 2) .rnil) .anil)))) 1), false), (.cmp .eql (.rlen (.rvar 1) 1) (.bin .mul .i64 (.var 2) (.var 3)), true), (.cmp .lss (.lit 2) (.var 0), false), (.cmp .lss (.var 0) (.lit 0), false), (.cmp .lss (.lit 16) (.var 3), false), (.cmp .lss (.var 3) (.lit 1), false), (.cmp .lss (.lit 16) (.var 2), false), (.cmp .lss (.var 2) (.lit 1), false), (.not (.cmp .lss (.lit 1048576) (.rlen (.rvar 1) 1)), true), (.cmp .lss (.lit 1000000) (.rlen (.rapp 118 (.acons (.rcons (.var 0) .rnil) (.acons (.rvar 1) (.acons (.rcons (.var 2) .rnil) .anil)))) 1), false), (.cmp .lss (.lit 140737488355328) (.plus (.lit 1) (.rlen (.rapp 105 (.acons (.rapp 118 (.acons (.rcons (.var 0) .rnil) (.acons (.rvar 1) (.acons (.rcons (.var 2) .rnil) .anil)))) .anil)) 1)), false), (.cmp .lss (.lit 140737488355328) (.plus (.lit 1) (.rlen (.rapp 105 (.acons .rnil .anil)) 1)), false)], .ret (.tuple [.e0, .int .i64 0]) ⟨0, .nil⟩), ([(.cmp .eql (.app 119 (.acons (.rcons (.var 0) .rnil) (.acons (.rvar 1) (.acons (.rcons (.var 2) .rnil) .anil)))) (.lit 0), false), (.cmp .lss (.lit 0) (.rlen (.rapp 118 (.acons (.rcons (.var 0) .rnil) (.acons (.rvar 1) (.acons (.rcons (.var 2) .rnil) .anil)))) 1), false), (.cmp .eql (.rlen (.rvar 1) 1) (.bin .mul .i64 (.var 2) (.var 3)), true), (.cmp .lss (.lit 2) (.var 0), false), (.cmp .lss (.var 0) (.lit 0), false), (.cmp .lss (.lit 16) (.var 3), false), (.cmp .lss (.var 3) (.lit 1), false), (.cmp .lss (.lit 16) (.var 2), false), (.cmp .lss (.var 2) (.lit 1), false), (.not (.cmp .lss (.lit 1048576) (.rlen (.rvar 1) 1)), true), (.cmp .lss (.lit 1000000) (.rlen (.rapp 118 (.acons (.rcons (.var 0) .rnil) (.acons (.rvar 1) (.acons (.rcons (.var 2) .rnil) .anil)))) 1), false), (.cmp .lss (.lit 140737488355328) (.plus (.lit 1) (.rlen (.rapp 105 (.acons (.rapp 118 (.acons (.rcons (.var 0) .rnil) (.acons (.rvar 1) (.acons (.rcons (.var 2) .rnil) .anil)))) .anil)) 1)), false), (.cmp .lss (.lit 140737488355328) (.plus (.lit 1) (.rlen (.rapp 105 (.acons .rnil .anil)) 1)), false)], .ret (.tuple [.nilslice, .sint .i64 (.app 119 (.acons (.rcons (.var 0) .rnil) (.acons (.rvar 1) (.acons (.rcons (.var 2) .rnil) .anil))))]) ⟨0, .nil⟩), ([(.cmp .eql (.rlen (.rvar 1) 1) (.bin .mul .i64 (.var 2) (.var 3)), false), (.cmp .lss (.lit 2) (.var 0), false), (.cmp .lss (.var 0) (.lit 0), false), (.cmp .lss (.lit 16) (.var 3), false), (.cmp .lss (.var 3) (.lit 1), false), (.cmp .lss (.lit 16) (.var 2), false), (.cmp .lss (.var 2) (.lit 1), false), (.not (.cmp .lss (.lit 1048576) (.rlen (.rvar 1) 1)), true), (.cmp .lss (.lit 1000000) (.rlen (.rapp 118 (.acons (.rcons (.var 0) .rnil) (.acons (.rvar 1) (.acons (.rcons (.var 2) .rnil) .anil)))) 1), false), (.cmp .lss (.lit 140737488355328) (.plus (.lit 1) (.rlen (.rapp 105 (.acons (.rapp 118 (.acons (.rcons (.var 0) .rnil) (.acons (.rvar 1) (.acons (.rcons (.var 2) .rnil) .anil)))) .anil)) 1)), false), (.cmp .lss (.lit 140737488355328) (.plus (.lit 1) (.rlen (.rapp 105 (.acons .rnil .anil)) 1)), false)], .ret (.tuple [.nilslice, .int .i64 6]) ⟨0, .nil⟩)] := by kernel_rfl

end Go.Proofs.Ytkfejcffacbngaa.J


namespace Go.Proofs.Ytkfejcffacbngaa.J

open Go Go.Sym

set_option linter.unusedVariables false

def pcCellsP : Pc := ⟨88, [.int .i64, .sl [.i64], .int .i64], [.sl 2 [.i64], .int .i64], 122, [(1, 0, 1048576), (2, 1, 1048576)], []⟩
def pcCellsD : Pc := ⟨89, [.int .i64, .sl [.i64], .int .i64], [.sl 2 [.i64], .int .i64], 122, [(1, 0, 1048576), (2, 1, 1048576)], []⟩

abbrev preC (r i : IE) : BE × Bool := (.cmp .eql (.app 117 (.acons (.rcons (.var 0) .rnil) (.acons r (.acons (.rcons (.var 2) .rnil) (.acons (.rcons i .rnil) .anil))))) (.lit 1), true)
abbrev cutCP : Cuts := [([0, 1, 0, 1, 1, 1], ⟨51, [(0, .sint .i64 (.var 0)), (1, in1), (2, .sint .i64 (.var 2)), (6, .nilslice), (7, .int .i64 0), (8, rowN), (20, rowN), (21, in1), (22, .sint .i64 n1E), (23, .sint .i64 (.var 3))], [(0, ⟨2, 0, [], .nil, true, some (.rvar 4, n1E, [.i64])⟩)], 1, [preC (.rvar 4) (.var 3), (nonneg (.var 3), true), (atmB n1E (.lit 1048576), true)]⟩)]

theorem cellsP_entry : entryK Try.prog [pcGuessP.ct] 50 400 88 cutCP 3 (argSVs 0 pcCellsP.aks) 14 [(atmB n1E (.lit 1048576), true)] = some [([(.cmp .lss (.var 0) (.lit 0), true), (.not (.cmp .lss (.lit 1048576) (.rlen (.rvar 1) 1)), true)], .ret (.tuple [.nilslice, .int .i64 11]) ⟨0, .nil⟩), ([(.cmp .lss (.lit 2) (.var 0), true), (.cmp .lss (.var 0) (.lit 0), false), (.not (.cmp .lss (.lit 1048576) (.rlen (.rvar 1) 1)), true)], .ret (.tuple [.nilslice, .int .i64 11]) ⟨0, .nil⟩), ([(.cmp .lss (.var 2) (.lit 1), true), (.cmp .lss (.lit 2) (.var 0), false), (.cmp .lss (.var 0) (.lit 0), false), (.not (.cmp .lss (.lit 1048576) (.rlen (.rvar 1) 1)), true)], .ret (.tuple [.nilslice, .int .i64 11]) ⟨0, .nil⟩), ([(.cmp .eql (.bin .rem .i64 (.rlen (.rvar 1) 1) (.var 2)) (.lit 0), true), (.cmp .lss (.var 2) (.lit 1), false), (.cmp .lss (.lit 2) (.var 0), false), (.cmp .lss (.var 0) (.lit 0), false), (.not (.cmp .lss (.lit 1048576) (.rlen (.rvar 1) 1)), true)], .cut 0 ⟨[(3, .lit 0)], [(4, .rep (.rlen (.rvar 1) 1) (.rcon [0]))], [], [(0, 0)]⟩), ([(.cmp .eql (.bin .rem .i64 (.rlen (.rvar 1) 1) (.var 2)) (.lit 0), false), (.cmp .lss (.var 2) (.lit 1), false), (.cmp .lss (.lit 2) (.var 0), false), (.cmp .lss (.var 0) (.lit 0), false), (.not (.cmp .lss (.lit 1048576) (.rlen (.rvar 1) 1)), true)], .ret (.tuple [.nilslice, .int .i64 11]) ⟨0, .nil⟩)] := by kernel_rfl

theorem cellsP_rounds : roundsK Try.prog [pcGuessP.ct] 50 400 88 cutCP 3 14 cutCP = some [[([(.cmp .lss (.sel (.rvar 1) (.var 3) 1 0) (.bin .sub .i64 (.lit (-2147483648)) (.app 115 (.acons (.rcons (.var 0) .rnil) (.acons (.rvar 4) (.acons (.rcons (.var 2) .rnil) (.acons (.rcons (.var 3) .rnil) .anil)))))), true), (.cmp .lss (.var 3) (.rlen (.rvar 1) 1), true), (.cmp .eql (.app 117 (.acons (.rcons (.var 0) .rnil) (.acons (.rvar 4) (.acons (.rcons (.var 2) .rnil) (.acons (.rcons (.var 3) .rnil) .anil))))) (.lit 1), true), (.not (.cmp .lss (.var 3) (.lit 0)), true), (.not (.cmp .lss (.lit 1048576) (.rlen (.rvar 1) 1)), true)], .ret (.tuple [.nilslice, .int .i64 7]) ⟨0, .nil⟩), ([(.cmp .lss (.bin .sub .i64 (.lit 2147483647) (.app 115 (.acons (.rcons (.var 0) .rnil) (.acons (.rvar 4) (.acons (.rcons (.var 2) .rnil) (.acons (.rcons (.var 3) .rnil) .anil)))))) (.sel (.rvar 1) (.var 3) 1 0), true), (.cmp .lss (.sel (.rvar 1) (.var 3) 1 0) (.bin .sub .i64 (.lit (-2147483648)) (.app 115 (.acons (.rcons (.var 0) .rnil) (.acons (.rvar 4) (.acons (.rcons (.var 2) .rnil) (.acons (.rcons (.var 3) .rnil) .anil)))))), false), (.cmp .lss (.var 3) (.rlen (.rvar 1) 1), true), (.cmp .eql (.app 117 (.acons (.rcons (.var 0) .rnil) (.acons (.rvar 4) (.acons (.rcons (.var 2) .rnil) (.acons (.rcons (.var 3) .rnil) .anil))))) (.lit 1), true), (.not (.cmp .lss (.var 3) (.lit 0)), true), (.not (.cmp .lss (.lit 1048576) (.rlen (.rvar 1) 1)), true)], .ret (.tuple [.nilslice, .int .i64 7]) ⟨0, .nil⟩), ([(.cmp .lss (.bin .sub .i64 (.lit 2147483647) (.app 115 (.acons (.rcons (.var 0) .rnil) (.acons (.rvar 4) (.acons (.rcons (.var 2) .rnil) (.acons (.rcons (.var 3) .rnil) .anil)))))) (.sel (.rvar 1) (.var 3) 1 0), false), (.cmp .lss (.sel (.rvar 1) (.var 3) 1 0) (.bin .sub .i64 (.lit (-2147483648)) (.app 115 (.acons (.rcons (.var 0) .rnil) (.acons (.rvar 4) (.acons (.rcons (.var 2) .rnil) (.acons (.rcons (.var 3) .rnil) .anil)))))), false), (.cmp .lss (.var 3) (.rlen (.rvar 1) 1), true), (.cmp .eql (.app 117 (.acons (.rcons (.var 0) .rnil) (.acons (.rvar 4) (.acons (.rcons (.var 2) .rnil) (.acons (.rcons (.var 3) .rnil) .anil))))) (.lit 1), true), (.not (.cmp .lss (.var 3) (.lit 0)), true), (.not (.cmp .lss (.lit 1048576) (.rlen (.rvar 1) 1)), true)], .cut 0 ⟨[(3, .bin .add .i64 (.var 3) (.lit 1))], [(4, .set (.rvar 4) (.var 3) 1 0 (.bin .add .i64 (.app 115 (.acons (.rcons (.var 0) .rnil) (.acons (.rvar 4) (.acons (.rcons (.var 2) .rnil) (.acons (.rcons (.var 3) .rnil) .anil))))) (.sel (.rvar 1) (.var 3) 1 0)))], [], [(0, 0)]⟩), ([(.cmp .lss (.var 3) (.rlen (.rvar 1) 1), false), (.cmp .eql (.app 117 (.acons (.rcons (.var 0) .rnil) (.acons (.rvar 4) (.acons (.rcons (.var 2) .rnil) (.acons (.rcons (.var 3) .rnil) .anil))))) (.lit 1), true), (.not (.cmp .lss (.var 3) (.lit 0)), true), (.not (.cmp .lss (.lit 1048576) (.rlen (.rvar 1) 1)), true)], .ret (.tuple [.rsl (.own 0) (.lit 0) (.rlen (.rvar 1) 1) 1, .int .i64 0]) ⟨1, (.node (some ⟨2, 0, [], .nil, true, (some (.rvar 4, (.rlen (.rvar 1) 1, [.i64])))⟩) .nil .nil)⟩)]] := by kernel_rfl

abbrev cutCD : Cuts := [
  ([0, 1, 0, 1, 1, 1], ⟨55, slRD ++ [(8, sl0I), (9, .sint .i64 (.var 3))], [blkZ], 1, [preC .rnil (.var 3)] ++ asRD⟩),
  ([0, 1, 0, 1, 1, 1], ⟨55, slRD ++ [(8, rowI), (9, .sint .i64 (.var 3))], [blkI], 1, [preC (.rvar 4) (.var 3)] ++ asRD ++ [(nonneg (.var 5), true), (atmB (.var 5) (.lit 1048576), true), ltR (.lit 17592186044416) (.plus (.var 5) (.lit 1)) false]⟩)]

theorem cellsD_entry : entryK Try.prog [pcGuessD.ct] 50 400 89 cutCD 3 (argSVs 0 pcCellsD.aks) 14 [(atmB n1E (.lit 1048576), true)] = some [([(.cmp .eql (.bin .rem .i64 (.rlen (.rvar 1) 1) (.var 2)) (.lit 0), true), (.cmp .lss (.lit 0) (.var 2), true), (.cmp .eql (.var 0) (.lit 0), true), (.not (.cmp .lss (.lit 1048576) (.rlen (.rvar 1) 1)), true)], .cut 0 ⟨[(3, .lit 0)], [], [], [(0, 0)]⟩), ([(.cmp .eql (.bin .rem .i64 (.rlen (.rvar 1) 1) (.var 2)) (.lit 0), false), (.cmp .lss (.lit 0) (.var 2), true), (.cmp .eql (.var 0) (.lit 0), true), (.not (.cmp .lss (.lit 1048576) (.rlen (.rvar 1) 1)), true)], .ret (.tuple [.nilslice, .int .i64 11]) ⟨0, .nil⟩), ([(.cmp .lss (.lit 0) (.var 2), false), (.cmp .eql (.var 0) (.lit 0), true), (.not (.cmp .lss (.lit 1048576) (.rlen (.rvar 1) 1)), true)], .ret (.tuple [.nilslice, .int .i64 11]) ⟨0, .nil⟩), ([(.cmp .eql (.bin .rem .i64 (.rlen (.rvar 1) 1) (.var 2)) (.lit 0), true), (.cmp .lss (.lit 0) (.var 2), true), (.cmp .eql (.var 0) (.lit 1), true), (.cmp .eql (.var 0) (.lit 0), false), (.not (.cmp .lss (.lit 1048576) (.rlen (.rvar 1) 1)), true)], .cut 0 ⟨[(3, .lit 0)], [], [], [(0, 0)]⟩), ([(.cmp .eql (.bin .rem .i64 (.rlen (.rvar 1) 1) (.var 2)) (.lit 0), false), (.cmp .lss (.lit 0) (.var 2), true), (.cmp .eql (.var 0) (.lit 1), true), (.cmp .eql (.var 0) (.lit 0), false), (.not (.cmp .lss (.lit 1048576) (.rlen (.rvar 1) 1)), true)], .ret (.tuple [.nilslice, .int .i64 11]) ⟨0, .nil⟩), ([(.cmp .lss (.lit 0) (.var 2), false), (.cmp .eql (.var 0) (.lit 1), true), (.cmp .eql (.var 0) (.lit 0), false), (.not (.cmp .lss (.lit 1048576) (.rlen (.rvar 1) 1)), true)], .ret (.tuple [.nilslice, .int .i64 11]) ⟨0, .nil⟩), ([(.cmp .eql (.bin .rem .i64 (.rlen (.rvar 1) 1) (.var 2)) (.lit 0), true), (.cmp .lss (.lit 0) (.var 2), true), (.cmp .eql (.var 0) (.lit 2), true), (.cmp .eql (.var 0) (.lit 1), false), (.cmp .eql (.var 0) (.lit 0), false), (.not (.cmp .lss (.lit 1048576) (.rlen (.rvar 1) 1)), true)], .cut 0 ⟨[(3, .lit 0)], [], [], [(0, 0)]⟩), ([(.cmp .eql (.bin .rem .i64 (.rlen (.rvar 1) 1) (.var 2)) (.lit 0), false), (.cmp .lss (.lit 0) (.var 2), true), (.cmp .eql (.var 0) (.lit 2), true), (.cmp .eql (.var 0) (.lit 1), false), (.cmp .eql (.var 0) (.lit 0), false), (.not (.cmp .lss (.lit 1048576) (.rlen (.rvar 1) 1)), true)], .ret (.tuple [.nilslice, .int .i64 11]) ⟨0, .nil⟩), ([(.cmp .lss (.lit 0) (.var 2), false), (.cmp .eql (.var 0) (.lit 2), true), (.cmp .eql (.var 0) (.lit 1), false), (.cmp .eql (.var 0) (.lit 0), false), (.not (.cmp .lss (.lit 1048576) (.rlen (.rvar 1) 1)), true)], .ret (.tuple [.nilslice, .int .i64 11]) ⟨0, .nil⟩), ([(.cmp .eql (.var 0) (.lit 2), false), (.cmp .eql (.var 0) (.lit 1), false), (.cmp .eql (.var 0) (.lit 0), false), (.not (.cmp .lss (.lit 1048576) (.rlen (.rvar 1) 1)), true)], .ret (.tuple [.nilslice, .int .i64 11]) ⟨0, .nil⟩)] := by kernel_rfl

theorem cellsD_rounds : roundsK Try.prog [pcGuessD.ct] 50 400 89 cutCD 3 14 cutCD = some [[([(.cmp .lss (.bin .sub .i64 (.lit 2147483647) (.app 115 (.acons (.rcons (.var 0) .rnil) (.acons .rnil (.acons (.rcons (.var 2) .rnil) (.acons (.rcons (.var 3) .rnil) .anil)))))) (.sel (.rvar 1) (.var 3) 1 0), true), (.cmp .lss (.var 3) (.rlen (.rvar 1) 1), true), (.cmp .eql (.app 117 (.acons (.rcons (.var 0) .rnil) (.acons .rnil (.acons (.rcons (.var 2) .rnil) (.acons (.rcons (.var 3) .rnil) .anil))))) (.lit 1), true), (.not (.cmp .lss (.var 3) (.lit 0)), true), (.not (.cmp .lss (.lit 1048576) (.rlen (.rvar 1) 1)), true)], .ret (.tuple [.nilslice, .int .i64 7]) ⟨0, .nil⟩), ([(.cmp .lss (.sel (.rvar 1) (.var 3) 1 0) (.bin .sub .i64 (.lit (-2147483648)) (.app 115 (.acons (.rcons (.var 0) .rnil) (.acons .rnil (.acons (.rcons (.var 2) .rnil) (.acons (.rcons (.var 3) .rnil) .anil)))))), true), (.cmp .lss (.bin .sub .i64 (.lit 2147483647) (.app 115 (.acons (.rcons (.var 0) .rnil) (.acons .rnil (.acons (.rcons (.var 2) .rnil) (.acons (.rcons (.var 3) .rnil) .anil)))))) (.sel (.rvar 1) (.var 3) 1 0), false), (.cmp .lss (.var 3) (.rlen (.rvar 1) 1), true), (.cmp .eql (.app 117 (.acons (.rcons (.var 0) .rnil) (.acons .rnil (.acons (.rcons (.var 2) .rnil) (.acons (.rcons (.var 3) .rnil) .anil))))) (.lit 1), true), (.not (.cmp .lss (.var 3) (.lit 0)), true), (.not (.cmp .lss (.lit 1048576) (.rlen (.rvar 1) 1)), true)], .ret (.tuple [.nilslice, .int .i64 7]) ⟨0, .nil⟩), ([(.cmp .lss (.sel (.rvar 1) (.var 3) 1 0) (.bin .sub .i64 (.lit (-2147483648)) (.app 115 (.acons (.rcons (.var 0) .rnil) (.acons .rnil (.acons (.rcons (.var 2) .rnil) (.acons (.rcons (.var 3) .rnil) .anil)))))), false), (.cmp .lss (.bin .sub .i64 (.lit 2147483647) (.app 115 (.acons (.rcons (.var 0) .rnil) (.acons .rnil (.acons (.rcons (.var 2) .rnil) (.acons (.rcons (.var 3) .rnil) .anil)))))) (.sel (.rvar 1) (.var 3) 1 0), false), (.cmp .lss (.var 3) (.rlen (.rvar 1) 1), true), (.cmp .eql (.app 117 (.acons (.rcons (.var 0) .rnil) (.acons .rnil (.acons (.rcons (.var 2) .rnil) (.acons (.rcons (.var 3) .rnil) .anil))))) (.lit 1), true), (.not (.cmp .lss (.var 3) (.lit 0)), true), (.not (.cmp .lss (.lit 1048576) (.rlen (.rvar 1) 1)), true)], .cut 1 ⟨[(3, .bin .add .i64 (.var 3) (.lit 1)), (5, .lit 1)], [(4, .rcons (.bin .add .i64 (.app 115 (.acons (.rcons (.var 0) .rnil) (.acons .rnil (.acons (.rcons (.var 2) .rnil) (.acons (.rcons (.var 3) .rnil) .anil))))) (.sel (.rvar 1) (.var 3) 1 0)) .rnil)], [], [(0, 2)]⟩), ([(.cmp .lss (.var 3) (.rlen (.rvar 1) 1), false), (.cmp .eql (.app 117 (.acons (.rcons (.var 0) .rnil) (.acons .rnil (.acons (.rcons (.var 2) .rnil) (.acons (.rcons (.var 3) .rnil) .anil))))) (.lit 1), true), (.not (.cmp .lss (.var 3) (.lit 0)), true), (.not (.cmp .lss (.lit 1048576) (.rlen (.rvar 1) 1)), true)], .ret (.tuple [.slice 0 0 0 0, .int .i64 0]) ⟨1, (.node (some ⟨2, 0, [], .nil, false, none⟩) .nil .nil)⟩)], [([(.cmp .lss (.bin .sub .i64 (.lit 2147483647) (.app 115 (.acons (.rcons (.var 0) .rnil) (.acons (.rvar 4) (.acons (.rcons (.var 2) .rnil) (.acons (.rcons (.var 3) .rnil) .anil)))))) (.sel (.rvar 1) (.var 3) 1 0), true), (.cmp .lss (.var 3) (.rlen (.rvar 1) 1), true), (.cmp .eql (.app 117 (.acons (.rcons (.var 0) .rnil) (.acons (.rvar 4) (.acons (.rcons (.var 2) .rnil) (.acons (.rcons (.var 3) .rnil) .anil))))) (.lit 1), true), (.not (.cmp .lss (.var 3) (.lit 0)), true), (.not (.cmp .lss (.lit 1048576) (.rlen (.rvar 1) 1)), true), (.not (.cmp .lss (.var 5) (.lit 0)), true), (.not (.cmp .lss (.lit 1048576) (.var 5)), true), (.cmp .lss (.lit 17592186044416) (.plus (.var 5) (.lit 1)), false)], .ret (.tuple [.nilslice, .int .i64 7]) ⟨0, .nil⟩), ([(.cmp .lss (.sel (.rvar 1) (.var 3) 1 0) (.bin .sub .i64 (.lit (-2147483648)) (.app 115 (.acons (.rcons (.var 0) .rnil) (.acons (.rvar 4) (.acons (.rcons (.var 2) .rnil) (.acons (.rcons (.var 3) .rnil) .anil)))))), true), (.cmp .lss (.bin .sub .i64 (.lit 2147483647) (.app 115 (.acons (.rcons (.var 0) .rnil) (.acons (.rvar 4) (.acons (.rcons (.var 2) .rnil) (.acons (.rcons (.var 3) .rnil) .anil)))))) (.sel (.rvar 1) (.var 3) 1 0), false), (.cmp .lss (.var 3) (.rlen (.rvar 1) 1), true), (.cmp .eql (.app 117 (.acons (.rcons (.var 0) .rnil) (.acons (.rvar 4) (.acons (.rcons (.var 2) .rnil) (.acons (.rcons (.var 3) .rnil) .anil))))) (.lit 1), true), (.not (.cmp .lss (.var 3) (.lit 0)), true), (.not (.cmp .lss (.lit 1048576) (.rlen (.rvar 1) 1)), true), (.not (.cmp .lss (.var 5) (.lit 0)), true), (.not (.cmp .lss (.lit 1048576) (.var 5)), true), (.cmp .lss (.lit 17592186044416) (.plus (.var 5) (.lit 1)), false)], .ret (.tuple [.nilslice, .int .i64 7]) ⟨0, .nil⟩), ([(.cmp .lss (.sel (.rvar 1) (.var 3) 1 0) (.bin .sub .i64 (.lit (-2147483648)) (.app 115 (.acons (.rcons (.var 0) .rnil) (.acons (.rvar 4) (.acons (.rcons (.var 2) .rnil) (.acons (.rcons (.var 3) .rnil) .anil)))))), false), (.cmp .lss (.bin .sub .i64 (.lit 2147483647) (.app 115 (.acons (.rcons (.var 0) .rnil) (.acons (.rvar 4) (.acons (.rcons (.var 2) .rnil) (.acons (.rcons (.var 3) .rnil) .anil)))))) (.sel (.rvar 1) (.var 3) 1 0), false), (.cmp .lss (.var 3) (.rlen (.rvar 1) 1), true), (.cmp .eql (.app 117 (.acons (.rcons (.var 0) .rnil) (.acons (.rvar 4) (.acons (.rcons (.var 2) .rnil) (.acons (.rcons (.var 3) .rnil) .anil))))) (.lit 1), true), (.not (.cmp .lss (.var 3) (.lit 0)), true), (.not (.cmp .lss (.lit 1048576) (.rlen (.rvar 1) 1)), true), (.not (.cmp .lss (.var 5) (.lit 0)), true), (.not (.cmp .lss (.lit 1048576) (.var 5)), true), (.cmp .lss (.lit 17592186044416) (.plus (.var 5) (.lit 1)), false)], .cut 1 ⟨[(3, .bin .add .i64 (.var 3) (.lit 1)), (5, .plus (.var 5) (.lit 1))], [(4, .cat (.rvar 4) (.rcons (.bin .add .i64 (.app 115 (.acons (.rcons (.var 0) .rnil) (.acons (.rvar 4) (.acons (.rcons (.var 2) .rnil) (.acons (.rcons (.var 3) .rnil) .anil))))) (.sel (.rvar 1) (.var 3) 1 0)) .rnil))], [], [(0, 2)]⟩), ([(.cmp .lss (.var 3) (.rlen (.rvar 1) 1), false), (.cmp .eql (.app 117 (.acons (.rcons (.var 0) .rnil) (.acons (.rvar 4) (.acons (.rcons (.var 2) .rnil) (.acons (.rcons (.var 3) .rnil) .anil))))) (.lit 1), true), (.not (.cmp .lss (.var 3) (.lit 0)), true), (.not (.cmp .lss (.lit 1048576) (.rlen (.rvar 1) 1)), true), (.not (.cmp .lss (.var 5) (.lit 0)), true), (.not (.cmp .lss (.lit 1048576) (.var 5)), true), (.cmp .lss (.lit 17592186044416) (.plus (.var 5) (.lit 1)), false)], .ret (.tuple [.rsl (.own 0) (.lit 0) (.var 5) 1, .int .i64 0]) ⟨1, (.node (some ⟨2, 0, [], .nil, true, (some (.rvar 4, (.var 5, [.i64])))⟩) .nil .nil)⟩)]] := by kernel_rfl

end Go.Proofs.Ytkfejcffacbngaa.J


namespace Go.Proofs.Ytkfejcffacbngaa.J

open Go Go.Sym

set_option linter.unusedVariables false

/-- cells of rests, as far as they may be: those ahead, and the code -/
def cellsF (k : Int) (r : List Int) (w : Int) : Nat → List Int × Int
  | 0 => ([], 0)
  | n + 1 => match cellsF k r w n with
    | (c, e) => if e ≠ 0 then ([], e) else if mayV (guessG k c w n + cl r n) then (c ++ [guessG k c w n + cl r n], 0) else ([], 7)

def cellsM (k : Int) (r : List Int) (w : Int) : List Int × Int :=
  if ¬ rightG k w r.length then ([], 11) else cellsF k r w r.length

theorem cellsF_len {k : Int} {r : List Int} {w : Int} : ∀ (n : Nat) (c : List Int), cellsF k r w n = (c, 0) → c.length = n ∧ ∀ j : Nat, j < n → mayV (cl c j) := by
  intro n
  induction n with
  | zero => intro c h; rw [cellsF] at h; cases h; exact ⟨rfl, fun j hj => by omega⟩
  | succ n ih =>
    intro c h
    rw [cellsF] at h
    obtain ⟨c0, e, hc⟩ : ∃ c0 e, cellsF k r w n = (c0, e) := ⟨_, _, rfl⟩
    rw [hc] at h
    simp only at h
    by_cases he : e ≠ 0
    · rw [if_pos he] at h; simp only [Prod.mk.injEq] at h; exact absurd h.2 he
    · rw [if_neg he] at h
      have he : e = 0 := by omega
      subst he
      obtain ⟨i1, i2⟩ := ih c0 hc
      by_cases hm : mayV (guessG k c0 w n + cl r n)
      · rw [if_pos hm] at h
        simp only [Prod.mk.injEq, and_true] at h
        subst h
        refine ⟨by simp; omega, fun j hj => ?_⟩
        by_cases h : j = n
        · subst h
          rw [cl_get (by simp; omega), List.getElem_append_right (by omega)]
          simpa [i1] using hm
        · have := i2 j (by omega)
          rw [cl_get (by omega)] at this
          rw [cl_get (by simp; omega), List.getElem_append_left (by omega)]
          exact this
      · rw [if_neg hm] at h; simp only [Prod.mk.injEq] at h; exact absurd h.2 (by decide)

theorem cl_app {c d : List Int} {j : Int} (h0 : 0 ≤ j) (h : j < c.length) : cl (c ++ d) j = cl c j := by
  obtain ⟨n, rfl⟩ : ∃ n : Nat, j = n := ⟨j.toNat, by omega⟩
  rw [cl_get (by simp; omega), cl_get (by omega), List.getElem_append_left (by omega)]

/-- a guess reads nothing but what is ahead -/
theorem guess_app {k : Int} {c d : List Int} {w : Int} {i : Nat} (hw : 1 ≤ w) (hi : i = c.length) : guessG k (c ++ d) w i = guessG k c w i := by
  have hr0 := Int.emod_nonneg (i : Int) (show w ≠ 0 by omega)
  unfold guessG
  by_cases hz : k = 0 ∨ (i : Int) = 0
  · rw [if_pos hz, if_pos hz]
  rw [if_neg hz, if_neg hz]
  by_cases hr : (i : Int) % w = 0
  · have hiw : w ≤ i := by
      by_cases h : w ≤ (i : Int)
      · exact h
      · exfalso; have := Int.emod_eq_of_lt (show 0 ≤ (i : Int) by omega) (show (i : Int) < w by omega); omega
    rw [if_pos hr, if_pos hr, cl_app (by omega) (by omega)]
  rw [if_neg hr, if_neg hr]
  by_cases hs : k = 1 ∨ (i : Int) < w
  · rw [if_pos hs, if_pos hs, cl_app (by omega) (by omega)]
  have hiw : w < i := by
    by_cases h : (i : Int) = w
    · exfalso; rw [h, Int.emod_self] at hr; exact hr rfl
    · omega
  rw [if_neg hs, if_neg hs, cl_app (by omega) (by omega), cl_app (by omega) (by omega), cl_app (by omega) (by omega)]

end Go.Proofs.Ytkfejcffacbngaa.J


namespace Go.Proofs.Ytkfejcffacbngaa.J

open Go Go.Sym

set_option linter.unusedVariables false

def g122 : List (List Int) → List Int
  | [[k], l, [w]] => (cellsM k l w).1
  | _ => []
def g123 : List (List Int) → List Int
  | [[k], l, [w]] => [(cellsM k l w).2]
  | _ => []

noncomputable def FNz : Nat → List (List Int) → List Int
  | 122, l => g122 l
  | 123, l => g123 l
  | i, l => FNy i l

theorem FNz_115 (k : Int) (l : List Int) (w i : Int) : FNz 115 [[k], l, [w], [i]] = [guessG k l w i] := rfl
theorem FNz_117 {k : Int} {l : List Int} {w i : Int} (h : mayG k l w i) : FNz 117 [[k], l, [w], [i]] = [1] := FNx_117 h
theorem FNz_122 (k : Int) (l : List Int) (w : Int) : FNz 122 [[k], l, [w]] = (cellsM k l w).1 := rfl
theorem FNz_123 (k : Int) (l : List Int) (w : Int) : FNz 123 [[k], l, [w]] = [(cellsM k l w).2] := rfl

theorem y_z {c : Pc} (h : PcOk Try.prog FNy c) (h1 : ∀ i, i < c.rks.length → c.id + i ≠ 122 ∧ c.id + i ≠ 123) (h2 : ∀ i, i ∈ c.pre → i ≠ 122 ∧ i ≠ 123) : PcOk Try.prog FNz c := by
  have e : ∀ j, j ≠ 122 ∧ j ≠ 123 → FNz j = FNy j := fun j hj => by
    funext l
    unfold FNz
    split <;> first | omega | rfl
  exact h.cong (fun i hi => e _ (h1 i hi)) (fun i hi => e _ (h2 i hi))

theorem knCP_ok : ∀ env : Env, env.fn = FNz → KnOk Try.prog env [pcGuessP.ct] := fun env h => knOk_cons knOk_nil (Pc.ct_ok h (y_z (x_y guessP_ok (by decide) (by decide)) (by decide) (by decide)))

theorem cellsF_ok {k : Int} {r : List Int} {w : Int} {i : Nat} {c : List Int} (h : cellsF k r w i = (c, 0)) (hm : mayV (guessG k c w i + cl r i)) : cellsF k r w (i + 1) = (c ++ [guessG k c w i + cl r i], 0) := by
  rw [cellsF, h]; simp only [ne_eq, not_true_eq_false, if_false, if_pos hm]

theorem cellsF_7 {k : Int} {r : List Int} {w : Int} {i : Nat} {c : List Int} (h : cellsF k r w i = (c, 0)) (hm : ¬ mayV (guessG k c w i + cl r i)) (n : Nat) : cellsF k r w (i + 1 + n) = ([], 7) := by
  induction n with
  | zero => rw [Nat.add_zero, cellsF, h]; simp only [ne_eq, not_true_eq_false, if_false, if_neg hm]
  | succ n ih => rw [show i + 1 + (n + 1) = (i + 1 + n) + 1 by omega, cellsF, ih]; simp

theorem cellsM_7 {k : Int} {r : List Int} {w : Int} {i : Nat} {c : List Int} (hR : rightG k w r.length) (hi : i < r.length) (h : cellsF k r w i = (c, 0)) (hm : ¬ mayV (guessG k c w i + cl r i)) : cellsM k r w = ([], 7) := by
  rw [cellsM, if_neg (by simpa using hR), show r.length = i + 1 + (r.length - i - 1) by omega, cellsF_7 h hm]

theorem mayG_row {k : Int} {r : List Int} {w : Int} {i : Nat} {c d : List Int} {n : Nat} (hR : rightG k w n) (hn : (n : Int) ≤ 1048576) (hw : w ≤ 1048576) (hi : i ≤ n) (h : cellsF k r w i = (c, 0)) : mayG k (c ++ d) w i := by
  obtain ⟨h1, h2⟩ := cellsF_len i c h
  refine ⟨hR.1, hR.2.1, hR.2.2.1, by omega, by omega, by omega, by simp; omega, fun j h0 hj => ?_⟩
  rw [cl_app h0 (by omega)]
  have := h2 j.toNat (by omega)
  rwa [show ((j.toNat : Nat) : Int) = j by omega] at this

def invCP (ls : List (List Int)) (c : Nat) (env : Env) : Prop := c = 0 ∧ ∃ (k : Int) (l : List Int) (w : Int) (i : Nat) (cs : List Int), ls = [[k], l, [w]] ∧ (l.length : Int) ≤ 1048576 ∧ rightG k w l.length ∧ w ≤ 1048576 ∧ vInt (env.val 0) = k ∧ env.row 1 = l ∧ vInt (env.val 2) = w ∧ vInt (env.val 3) = i ∧ i ≤ l.length ∧
  cellsF k l w i = (cs, 0) ∧ env.row 4 = cs ++ List.replicate (l.length - i) 0

set_option maxHeartbeats 1000000 in
theorem cellsP_ok : PcOk Try.prog FNz pcCellsP := by
  refine pc_floyd_as (cs := cutCP) (base := 3) mix pcCellsP knCP_ok (Nat.le_refl 3) cellsP_rounds cellsP_entry invCP (fun ls _ env => (0, (2000000 - vInt (env.val 3)).toNat)) (fun ls i env h => by have := h.1; simp; omega) ?_
  intro ls e0 hf hargs hrng hpre
  simp only [pcCellsP, ArgsE, ArgE] at hargs
  obtain ⟨_, _, rfl, rfl, l, _, rfl, ⟨hl, _⟩, _, _, rfl, rfl, rfl⟩ := hargs
  have hlen := (hrng.1 (.sl [.i64]) l rfl rfl).2
  have hwr := hrng.2.1 (.int .i64) _ rfl rfl
  obtain ⟨k, hk⟩ : ∃ z, vInt (e0.val 0) = z := ⟨_, rfl⟩
  obtain ⟨w, hw⟩ : ∃ z, vInt (e0.val 2) = z := ⟨_, rfl⟩
  simp only [measL, List.length_singleton, Nat.div_one, Nat.zero_add, Nat.reduceAdd, hk, hw, List.headD_cons] at hlen hwr hl ⊢
  have ret : ∀ (env : Env) (code : Int) (o : Option (Nat × Nat)) (M : Mem), cellsM k l w = ([], code) → StepG FNz [[k], l, [w]] pcCellsP.id pcCellsP.rks (invCP [[k], l, [w]]) (fun _ env => (0, (2000000 - vInt (env.val 3)).toNat)) o env (.ret (.tuple [.nilslice, .int .i64 code]) M) := by
    intro env code o M h
    refine ⟨[_, _], rfl, ⟨by decide, _, rfl, ?_, trivial⟩, ⟨_, rfl, ?_⟩, rfl⟩
    · simp only [IE.reval, pcCellsP, FNz_122, h]
    · simp only [IE.eval, pcCellsP, Nat.reduceAdd, FNz_123, h, List.headD_cons]
  have no11 : ¬ rightG k w l.length → cellsM k l w = ([], 11) := fun h => by rw [cellsM, if_pos h]
  refine ⟨?_, fun env hfn => ⟨⟨?_, trivial⟩, ⟨?_, trivial⟩⟩, ?_⟩
  · simp only [atmB, AsOk_cons, AsOk_nil, BE.eval, cmpI, IE.eval, IE.reval, hl, Nat.div_one]
    simp; omega
  · rintro ⟨_, k', l', w', i, cs, hls, h1, h2, h3, q0, q1, q2, q3, h4, h5, q4⟩
    have hm := mayG_row (d := List.replicate (l'.length - i) 0) h2 h1 h3 h4 h5
    simp only [preC, nonneg, atmB, AsOk_cons, AsOk_nil, BE.eval, cmpI, IE.eval, IE.reval, IE.aeval, hfn, q0, q1, q2, q3, q4, FNz_117 hm, List.headD_cons, Nat.div_one]
    simp; omega
  · rintro ⟨_, k', l', w', i, cs, hls, h1, h2, h3, q0, q1, q2, q3, h4, h5, q4⟩
    simp only [List.cons.injEq, and_true] at hls
    obtain ⟨rfl, rfl, rfl⟩ := hls
    have hm := mayG_row (d := List.replicate (l.length - i) 0) h2 h1 h3 h4 h5
    have hgm := guess_may hm
    obtain ⟨c1, c2⟩ := cellsF_len i cs h5
    have hga := guess_app (k := k) (c := cs) (d := List.replicate (l.length - i) 0) h2.2.2.1 c1.symm
    rw [hga] at hgm
    have e1 : binI .add .i64 (i : Int) 1 = ((i + 1 : Nat) : Int) := by simp only [binI]; rw [wrap_i64 (by omega)]; omega
    have e2 : binI .sub .i64 (-2147483648) (guessG k cs w i) = -2147483648 - guessG k cs w i := wrap_i64 (by omega)
    have e3 : binI .sub .i64 2147483647 (guessG k cs w i) = 2147483647 - guessG k cs w i := wrap_i64 (by omega)
    simp only [allLeaves, AsOk_cons, AsOk_nil, BE.eval, cmpI, IE.eval, IE.reval, IE.aeval, hfn, q0, q1, q2, q3, q4, FNz_115, FNz_117 hm, hga, e2, e3, List.headD_cons, Nat.div_one, and_true, decide_true, decide_eq_true_eq, decide_eq_false_iff_not]
    refine ⟨fun hA => ret env 7 _ _ (cellsM_7 (i := i) h2 (by omega) h5 (by simp only [mayV, cl]; omega)), fun hA => ret env 7 _ _ (cellsM_7 (i := i) h2 (by omega) h5 (by simp only [mayV, cl]; omega)), fun hA => ?_, fun hA => ?_⟩
    · have hlt : i < l.length := by omega
      have hv : mayV (guessG k cs w i + cl l i) := by simp only [mayV, cl]; omega
      have e4 : binI .add .i64 (guessG k cs w i) (cl l i) = guessG k cs w i + cl l i := wrap_i64 (by omega)
      refine stepG_cut ⟨rfl, k, l, w, i + 1, _, rfl, h1, h2, h3, ?_, ?_, ?_, ?_, by omega, cellsF_ok h5 hv, ?_⟩ (Prod.lex_def.2 (.inr ⟨rfl, ?_⟩))
      · simp [upd, lk_cons, lk_nil, q0]
      · simp [upd, lk_cons, lk_nil, q1]
      · simp [upd, lk_cons, lk_nil, q2]
      · simp [upd, lk_cons, lk_nil, IE.eval, q3, e1, vInt_int]
      · simp only [upd, lk_cons, lk_nil, if_true, IE.eval, IE.reval, IE.aeval, hfn, q0, q1, q2, q3, q4, FNz_115, hga, List.headD_cons]
        rw [e4]
        exact set_next c1 hlt
      · simp only [upd, lk_cons, lk_nil, if_true, IE.eval, q3, e1, vInt_int]
        exact decM hlt hlen
    · obtain rfl : i = l.length := by omega
      have hg : cellsM k l w = (cs, 0) := by rw [cellsM, if_neg (by simpa using h2), h5]
      rw [Nat.sub_self, List.replicate_zero, List.append_nil] at q4
      have hl4 : (env.row 4).length = l.length := by rw [q4, c1]
      refine ⟨[_, _], rfl, ⟨by decide, _, rfl, ?_, ?_⟩, ⟨_, rfl, ?_⟩, rfl⟩
      · rw [subE_eval (by simp only [IE.reval, IE.eval, q1, hl4]; simp)]
        simp only [IE.reval, IE.eval, q1, pcCellsP, FNz_122, hg, Nat.div_one]
        rw [q4]
        exact sub_all2 c1.symm
      · refine ⟨by simp only [IE.eval, IE.reval, q1, Nat.div_one]; omega, fun B r cnt ks' h1 h2 => ?_⟩
        obtain rfl := Option.some.inj h1
        cases h2
        exact Int.le_refl _
      · simp only [IE.eval, pcCellsP, Nat.reduceAdd, FNz_123, hg, List.headD_cons]
  · have eR : 1 ≤ w → binI .rem .i64 (l.length : Int) w = (l.length : Int) % w := fun h => by show (l.length : Int).tmod w = _; rw [Int.tmod_eq_emod_of_nonneg (by omega)]
    simp only [allLeaves, AsOk_cons, AsOk_nil, BE.eval, cmpI, IE.eval, IE.reval, hk, hw, hl, eR hwr.1, Nat.div_one, and_true, decide_eq_true_eq, decide_eq_false_iff_not]
    refine ⟨fun hA => ret e0 11 _ _ (no11 (by omega)), fun hA => ret e0 11 _ _ (no11 (by omega)), fun hA => ret e0 11 _ _ (no11 (by omega)), fun hA => ?_, fun hA => ret e0 11 _ _ (no11 fun h => hA.1 h.2.2.2)⟩
    refine stepG_cut0 ⟨rfl, k, l, w, 0, [], rfl, hlen, ⟨by omega, by omega, by omega, hA.1⟩, hwr.2, ?_, ?_, ?_, ?_, by omega, rfl, ?_⟩
    · simp [upd, lk_cons, lk_nil, hk]
    · simp [upd, lk_cons, lk_nil, hl]
    · simp [upd, lk_cons, lk_nil, hw]
    · simp [upd, lk_cons, lk_nil, IE.eval, vInt_int]
    · simp only [upd, lk_cons, lk_nil, if_true, IE.eval, IE.reval, hl, Nat.div_one, repL_rep]
      simp

end Go.Proofs.Ytkfejcffacbngaa.J


namespace Go.Proofs.Ytkfejcffacbngaa.J

open Go Go.Sym

set_option linter.unusedVariables false

theorem knCD_ok : ∀ env : Env, env.fn = FNz → KnOk Try.prog env [pcGuessD.ct] := fun env h => knOk_cons knOk_nil (Pc.ct_ok h (y_z (x_y guessD_ok (by decide) (by decide)) (by decide) (by decide)))

def invCD (ls : List (List Int)) (c : Nat) (env : Env) : Prop := ∃ (k : Int) (l : List Int) (w : Int) (i : Nat), ls = [[k], l, [w]] ∧ (l.length : Int) ≤ 1048576 ∧ rightG k w l.length ∧ w ≤ 1048576 ∧ vInt (env.val 0) = k ∧ env.row 1 = l ∧ vInt (env.val 2) = w ∧ vInt (env.val 3) = i ∧ i ≤ l.length ∧
  ((c = 0 ∧ i = 0) ∨ (c = 1 ∧ cellsF k l w i = (env.row 4, 0) ∧ vInt (env.val 5) = i))

def muCD (_ : List (List Int)) (c : Nat) (env : Env) : Nat × Nat := (0, (2000000 - vInt (env.val 3)).toNat)

set_option maxHeartbeats 2000000 in
theorem cellsD_ok : PcOk Try.prog FNz pcCellsD := by
  refine pc_floyd_w (cs := cutCD) (base := 3) mix pcCellsD knCD_ok (Nat.le_refl 3) cellsD_rounds cellsD_entry invCD muCD (fun ls i env h => by
    obtain ⟨_, _, _, _, _, _, _, _, _, _, _, _, _, ⟨h, _⟩ | ⟨h, _⟩⟩ := h <;> simp <;> omega) ?_
  intro ls e0 hf hargs hrng hpre
  simp only [pcCellsD, ArgsE, ArgE] at hargs
  obtain ⟨_, _, rfl, rfl, l, _, rfl, ⟨hl, _⟩, _, _, rfl, rfl, rfl⟩ := hargs
  have hlen := (hrng.1 (.sl [.i64]) l rfl rfl).2
  have hwr := hrng.2.1 (.int .i64) _ rfl rfl
  obtain ⟨k, hk⟩ : ∃ z, vInt (e0.val 0) = z := ⟨_, rfl⟩
  obtain ⟨w, hw⟩ : ∃ z, vInt (e0.val 2) = z := ⟨_, rfl⟩
  simp only [measL, List.length_singleton, Nat.div_one, Nat.zero_add, Nat.reduceAdd, hk, hw, List.headD_cons] at hlen hwr hl ⊢
  have ret : ∀ (env : Env) (code : Int) (o : Option (Nat × Nat)) (M : Mem), cellsM k l w = ([], code) → StepW FNz [[k], l, [w]] pcCellsD.id pcCellsD.rks (invCD [[k], l, [w]]) (muCD [[k], l, [w]]) o env (.ret (.tuple [.nilslice, .int .i64 code]) M) := by
    intro env code o M h
    refine .inl ⟨[_, _], rfl, ⟨by decide, _, rfl, ?_, trivial⟩, ⟨_, rfl, ?_⟩, rfl⟩
    · simp only [IE.reval, pcCellsD, FNz_122, h]
    · simp only [IE.eval, pcCellsD, Nat.reduceAdd, FNz_123, h, List.headD_cons]
  have no11 : ¬ rightG k w l.length → cellsM k l w = ([], 11) := fun h => by rw [cellsM, if_pos h]
  refine ⟨?_, fun env hfn => ⟨⟨?_, ?_, trivial⟩, ⟨?_, ?_, trivial⟩⟩, ?_⟩
  · simp only [atmB, AsOk_cons, AsOk_nil, BE.eval, cmpI, IE.eval, IE.reval, hl, Nat.div_one]
    simp; omega
  · rintro ⟨k', l', w', i, hls, h1, h2, h3, q0, q1, q2, q3, h4, ⟨_, h5⟩ | ⟨h, _⟩⟩
    · subst h5
      have hm := mayG_row (c := []) (d := []) h2 h1 h3 h4 (show cellsF k' l' w' 0 = ([], 0) from rfl)
      rw [List.append_nil] at hm
      simp only [asRD, preC, nonneg, atmB, List.cons_append, List.nil_append, AsOk_cons, AsOk_nil, BE.eval, cmpI, IE.eval, IE.reval, IE.aeval, hfn, q0, q1, q2, q3, FNz_117 hm, List.headD_cons, Nat.div_one]
      simp; omega
    · cases h
  · rintro ⟨k', l', w', i, hls, h1, h2, h3, q0, q1, q2, q3, h4, ⟨h, _⟩ | ⟨_, h5, q5⟩⟩
    · cases h
    · have hm := mayG_row (d := []) h2 h1 h3 h4 h5
      rw [List.append_nil] at hm
      simp only [asRD, preC, nonneg, atmB, ltR, List.cons_append, List.nil_append, AsOk_cons, AsOk_nil, BE.eval, cmpI, IE.eval, IE.reval, IE.aeval, hfn, q0, q1, q2, q3, q5, FNz_117 hm, List.headD_cons, Nat.div_one]
      simp; omega
  · rintro ⟨k', l', w', i, hls, h1, h2, h3, q0, q1, q2, q3, h4, ⟨_, h5⟩ | ⟨h, _⟩⟩
    · simp only [List.cons.injEq, and_true] at hls
      obtain ⟨rfl, rfl, rfl⟩ := hls
      subst h5
      have h5 : cellsF k l w 0 = ([], 0) := rfl
      have hm := mayG_row (c := []) (d := []) h2 h1 h3 h4 h5
      rw [List.append_nil] at hm
      have hgm := guess_may hm
      have e1 : binI .add .i64 ((0 : Nat) : Int) 1 = ((1 : Nat) : Int) := by decide
      have e2 : binI .sub .i64 (-2147483648) (guessG k [] w ((0 : Nat) : Int)) = -2147483648 - guessG k [] w ((0 : Nat) : Int) := wrap_i64 (by omega)
      have e3 : binI .sub .i64 2147483647 (guessG k [] w ((0 : Nat) : Int)) = 2147483647 - guessG k [] w ((0 : Nat) : Int) := wrap_i64 (by omega)
      simp only [allLeaves, AsOk_cons, AsOk_nil, BE.eval, cmpI, IE.eval, IE.reval, IE.aeval, hfn, q0, q1, q2, q3, FNz_115, FNz_117 hm, e2, e3, List.headD_cons, Nat.div_one, and_true, decide_true, decide_eq_true_eq, decide_eq_false_iff_not]
      refine ⟨fun hA => ret env 7 _ _ (cellsM_7 (i := 0) h2 (by omega) h5 (by simp only [mayV, cl]; omega)), fun hA => ret env 7 _ _ (cellsM_7 (i := 0) h2 (by omega) h5 (by simp only [mayV, cl]; omega)), fun hA => ?_, fun hA => ?_⟩
      · have hlt : 0 < l.length := by omega
        have hv : mayV (guessG k [] w ((0 : Nat) : Int) + cl l ((0 : Nat) : Int)) := by simp only [mayV, cl]; omega
        have e4 : binI .add .i64 (guessG k [] w ((0 : Nat) : Int)) (cl l ((0 : Nat) : Int)) = guessG k [] w ((0 : Nat) : Int) + cl l ((0 : Nat) : Int) := wrap_i64 (by omega)
        refine .inl ⟨⟨k, l, w, 1, rfl, h1, h2, h3, ?_, ?_, ?_, ?_, by omega, .inr ⟨rfl, ?_, ?_⟩⟩, fun m hm => ?_⟩
        · simp [upd, lk_cons, lk_nil, q0]
        · simp [upd, lk_cons, lk_nil, q1]
        · simp [upd, lk_cons, lk_nil, q2]
        · simp only [upd, lk_cons, lk_nil, Nat.reduceEqDiff, if_false, if_true, IE.eval, q3, e1, vInt_int]
        · simp only [upd, lk_cons, lk_nil, if_true, IE.eval, IE.reval, IE.aeval, hfn, q0, q1, q2, q3, FNz_115, List.headD_cons]
          rw [e4]; exact cellsF_ok h5 hv
        · simp only [upd, lk_cons, lk_nil, Nat.reduceEqDiff, if_false, if_true, IE.eval, vInt_int]; rfl
        · cases hm
          refine Prod.lex_def.2 (.inr ⟨rfl, ?_⟩)
          simp only [muCD, upd, lk_cons, lk_nil, Nat.reduceEqDiff, if_false, if_true, IE.eval, q3, e1, vInt_int]
          exact decM hlt hlen
      · have hl0 : l.length = 0 := by omega
        have hg : cellsM k l w = ([], 0) := by rw [cellsM, if_neg (by simpa using h2), hl0, h5]
        refine .inr ⟨_, _, _, rfl, weak_e0, [_, _], rfl, ⟨by decide, _, rfl, ?_, trivial⟩, ⟨_, rfl, ?_⟩, rfl⟩
        · simp only [IE.reval, pcCellsD, FNz_122, hg]
        · simp only [IE.eval, pcCellsD, Nat.reduceAdd, FNz_123, hg, List.headD_cons]
    · cases h
  · rintro ⟨k', l', w', i, hls, h1, h2, h3, q0, q1, q2, q3, h4, ⟨h, _⟩ | ⟨_, h5, q5⟩⟩
    · cases h
    · simp only [List.cons.injEq, and_true] at hls
      obtain ⟨rfl, rfl, rfl⟩ := hls
      obtain ⟨cs, q4⟩ : ∃ cs, env.row 4 = cs := ⟨_, rfl⟩
      rw [q4] at h5
      have hm := mayG_row (d := []) h2 h1 h3 h4 h5
      rw [List.append_nil] at hm
      have hgm := guess_may hm
      obtain ⟨c1, c2⟩ := cellsF_len i cs h5
      have e1 : binI .add .i64 (i : Int) 1 = ((i + 1 : Nat) : Int) := by simp only [binI]; rw [wrap_i64 (by omega)]; omega
      have e2 : binI .sub .i64 (-2147483648) (guessG k cs w i) = -2147483648 - guessG k cs w i := wrap_i64 (by omega)
      have e3 : binI .sub .i64 2147483647 (guessG k cs w i) = 2147483647 - guessG k cs w i := wrap_i64 (by omega)
      simp only [allLeaves, AsOk_cons, AsOk_nil, BE.eval, cmpI, IE.eval, IE.reval, IE.aeval, hfn, q0, q1, q2, q3, q4, FNz_115, FNz_117 hm, e2, e3, List.headD_cons, Nat.div_one, and_true, decide_true, decide_eq_true_eq, decide_eq_false_iff_not]
      refine ⟨fun hA => ret env 7 _ _ (cellsM_7 (i := i) h2 (by omega) h5 (by simp only [mayV, cl]; omega)), fun hA => ret env 7 _ _ (cellsM_7 (i := i) h2 (by omega) h5 (by simp only [mayV, cl]; omega)), fun hA => ?_, fun hA => ?_⟩
      · have hlt : i < l.length := by omega
        have hv : mayV (guessG k cs w i + cl l i) := by simp only [mayV, cl]; omega
        have e4 : binI .add .i64 (guessG k cs w i) (cl l i) = guessG k cs w i + cl l i := wrap_i64 (by omega)
        refine .inl ⟨⟨k, l, w, i + 1, rfl, h1, h2, h3, ?_, ?_, ?_, ?_, by omega, .inr ⟨rfl, ?_, ?_⟩⟩, fun m hm => ?_⟩
        · simp [upd, lk_cons, lk_nil, q0]
        · simp [upd, lk_cons, lk_nil, q1]
        · simp [upd, lk_cons, lk_nil, q2]
        · simp [upd, lk_cons, lk_nil, IE.eval, q3, e1, vInt_int]
        · simp only [upd, lk_cons, lk_nil, if_true, IE.eval, IE.reval, IE.aeval, hfn, q0, q1, q2, q3, q4, FNz_115, List.headD_cons]
          rw [e4]; exact cellsF_ok h5 hv
        · simp [upd, lk_cons, lk_nil, IE.eval, q5, vInt_int]
        · cases hm
          refine Prod.lex_def.2 (.inr ⟨rfl, ?_⟩)
          simp only [muCD, upd, lk_cons, lk_nil, Nat.reduceEqDiff, if_false, if_true, IE.eval, q3, e1, vInt_int]
          exact decM hlt hlen
      · obtain rfl : i = l.length := by omega
        have hg : cellsM k l w = (cs, 0) := by rw [cellsM, if_neg (by simpa using h2), h5]
        have hl4 : (env.row 4).length = l.length := by rw [q4, c1]
        refine .inl ⟨[_, _], rfl, ⟨by decide, _, rfl, ?_, ?_⟩, ⟨_, rfl, ?_⟩, rfl⟩
        · rw [subE_eval (by simp only [IE.reval, IE.eval, q5, hl4]; simp)]
          simp only [IE.reval, IE.eval, q5, pcCellsD, FNz_122, hg]
          rw [q4]
          exact sub_all2 c1.symm
        · refine ⟨by simp only [IE.eval, q5]; omega, fun B r cnt ks' h1 h2 => ?_⟩
          obtain rfl := Option.some.inj h1
          cases h2
          exact Int.le_refl _
        · simp only [IE.eval, pcCellsD, Nat.reduceAdd, FNz_123, hg, List.headD_cons]
  · have eR : 1 ≤ w → binI .rem .i64 (l.length : Int) w = (l.length : Int) % w := fun h => by show (l.length : Int).tmod w = _; rw [Int.tmod_eq_emod_of_nonneg (by omega)]
    have start : ∀ hR : rightG k w l.length, StepW FNz [[k], l, [w]] pcCellsD.id pcCellsD.rks (invCD [[k], l, [w]]) (muCD [[k], l, [w]]) none e0 (.cut 0 ⟨[(3, .lit 0)], [], [], [(0, 0)]⟩) := by
      intro hR
      refine .inl (stepG_cut0 ⟨k, l, w, 0, rfl, hlen, hR, hwr.2, ?_, ?_, ?_, ?_, by omega, .inl ⟨rfl, rfl⟩⟩)
      · simp [upd, lk_cons, lk_nil, hk]
      · simp [upd, lk_cons, lk_nil, hl]
      · simp [upd, lk_cons, lk_nil, hw]
      · simp [upd, lk_cons, lk_nil, IE.eval, vInt_int]
    simp only [allLeaves, AsOk_cons, AsOk_nil, BE.eval, cmpI, IE.eval, IE.reval, hk, hw, hl, eR hwr.1, Nat.div_one, and_true, decide_eq_true_eq, decide_eq_false_iff_not]
    refine ⟨fun hA => start ⟨by omega, by omega, by omega, hA.1⟩, fun hA => ret e0 11 _ _ (no11 fun h => hA.1 h.2.2.2), fun hA => ret e0 11 _ _ (no11 (by omega)), fun hA => start ⟨by omega, by omega, by omega, hA.1⟩, fun hA => ret e0 11 _ _ (no11 fun h => hA.1 h.2.2.2), fun hA => ret e0 11 _ _ (no11 (by omega)), fun hA => start ⟨by omega, by omega, by omega, hA.1⟩, fun hA => ret e0 11 _ _ (no11 fun h => hA.1 h.2.2.2), fun hA => ret e0 11 _ _ (no11 (by omega)), fun hA => ret e0 11 _ _ (no11 (by omega))⟩

end Go.Proofs.Ytkfejcffacbngaa.J


namespace Go.Proofs.Ytkfejcffacbngaa.J

open Go Go.Sym

set_option linter.unusedVariables false

theorem guess_le {k : Int} {c d : List Int} {w : Int} {i : Nat} (hw : 1 ≤ w) (hi : i ≤ c.length) : guessG k (c ++ d) w i = guessG k c w i := by
  have hr0 := Int.emod_nonneg (i : Int) (show w ≠ 0 by omega)
  unfold guessG
  by_cases hz : k = 0 ∨ (i : Int) = 0
  · rw [if_pos hz, if_pos hz]
  rw [if_neg hz, if_neg hz]
  by_cases hr : (i : Int) % w = 0
  · have hiw : w ≤ i := by
      by_cases h : w ≤ (i : Int)
      · exact h
      · exfalso; have := Int.emod_eq_of_lt (show 0 ≤ (i : Int) by omega) (show (i : Int) < w by omega); omega
    rw [if_pos hr, if_pos hr, cl_app (by omega) (by omega)]
  rw [if_neg hr, if_neg hr]
  by_cases hs : k = 1 ∨ (i : Int) < w
  · rw [if_pos hs, if_pos hs, cl_app (by omega) (by omega)]
  have hiw : w < i := by
    by_cases h : (i : Int) = w
    · exfalso; rw [h, Int.emod_self] at hr; exact hr rfl
    · omega
  rw [if_neg hs, if_neg hs, cl_app (by omega) (by omega), cl_app (by omega) (by omega), cl_app (by omega) (by omega)]

/-- RESTS ARE OF THEIR CELLS. -/
theorem rests_cells {k : Int} {r : List Int} {w : Int} (hw : 1 ≤ w) : ∀ (n : Nat) (c : List Int), n ≤ r.length → cellsF k r w n = (c, 0) → restsL k c w n = r.take n := by
  intro n
  induction n with
  | zero => intro c _ h; rw [cellsF] at h; cases h; rfl
  | succ n ih =>
    intro c hn h
    rw [cellsF] at h
    obtain ⟨c0, e, hc⟩ : ∃ c0 e, cellsF k r w n = (c0, e) := ⟨_, _, rfl⟩
    rw [hc] at h
    simp only at h
    by_cases he : e ≠ 0
    · rw [if_pos he] at h; simp only [Prod.mk.injEq] at h; exact absurd h.2 he
    · rw [if_neg he] at h
      have he : e = 0 := by omega
      subst he
      have h0 := ih c0 (by omega) hc
      obtain ⟨i1, _⟩ := cellsF_len n c0 hc
      by_cases hm : mayV (guessG k c0 w n + cl r n)
      · rw [if_pos hm] at h
        simp only [Prod.mk.injEq, and_true] at h
        subst h
        have hx : cl (c0 ++ [guessG k c0 w n + cl r n]) (n : Int) = guessG k c0 w n + cl r n := by
          rw [cl_get (by simp; omega), List.getElem_append_right (by omega)]
          simp [i1]
        rw [restsL_succ, restV, hx, guess_le hw (by omega), List.take_add_one, ← h0]
        have e1 : restsL k (c0 ++ [guessG k c0 w n + cl r n]) w n = restsL k c0 w n := by
          apply List.map_congr_left
          intro j hj
          have hj := List.mem_range.1 hj
          rw [restV, restV, guess_le hw (by omega), cl_app (by omega) (by omega)]
        have hlt : n < r.length := by omega
        have hcl : cl r (n : Int) = r[n] := cl_get hlt
        rw [e1, hcl]
        congr 1
        simp [hlt]
        omega
      · rw [if_neg hm] at h; simp only [Prod.mk.injEq] at h; exact absurd h.2 (by decide)

end Go.Proofs.Ytkfejcffacbngaa.J


namespace Go.Proofs.Ytkfejcffacbngaa.J

open Go Go.Sym

set_option linter.unusedVariables false

abbrev rightT (w h : Int) : Prop := 1 ≤ w ∧ w ≤ 16 ∧ 1 ≤ h ∧ h ≤ 16
/-- a tile's bytes -/
def tputM (k : Int) (l : List Int) (w h : Int) : List Int × Int :=
  if ¬ rightT w h then ([], 3) else if ¬ (0 ≤ k ∧ k ≤ 2) then ([], 11) else if (l.length : Int) ≠ w * h then ([], 6) else if (restsM k l w).2 ≠ 0 then ([], (restsM k l w).2) else (k :: putS (runsL (restsM k l w).1), 0)

def g120 : List (List Int) → List Int
  | [[k], l, [w], [h]] => (tputM k l w h).1
  | _ => []
def g121 : List (List Int) → List Int
  | [[k], l, [w], [h]] => [(tputM k l w h).2]
  | _ => []

noncomputable def FNta : Nat → List (List Int) → List Int
  | 120, l => g120 l
  | 121, l => g121 l
  | i, l => FNz i l

theorem FNta_102 (b zs : List Int) : FNta 102 [b, zs] = b ++ putS (runsL zs) := rfl
theorem FNta_105 (zs : List Int) : FNta 105 [zs] = putS (runsL zs) := rfl
theorem FNta_118 (k : Int) (l : List Int) (w : Int) : FNta 118 [[k], l, [w]] = (restsM k l w).1 := rfl
theorem FNta_119 (k : Int) (l : List Int) (w : Int) : FNta 119 [[k], l, [w]] = [(restsM k l w).2] := rfl
theorem FNta_120 (k : Int) (l : List Int) (w h : Int) : FNta 120 [[k], l, [w], [h]] = (tputM k l w h).1 := rfl
theorem FNta_121 (k : Int) (l : List Int) (w h : Int) : FNta 121 [[k], l, [w], [h]] = [(tputM k l w h).2] := rfl

theorem z_ta {c : Pc} (h : PcOk Try.prog FNz c) (h1 : ∀ i, i < c.rks.length → c.id + i ≠ 120 ∧ c.id + i ≠ 121) (h2 : ∀ i, i ∈ c.pre → i ≠ 120 ∧ i ≠ 121) : PcOk Try.prog FNta c := by
  have e : ∀ j, j ≠ 120 ∧ j ≠ 121 → FNta j = FNz j := fun j hj => by
    funext l
    unfold FNta
    split <;> first | omega | rfl
  exact h.cong (fun i hi => e _ (h1 i hi)) (fun i hi => e _ (h2 i hi))

theorem w_x {c : Pc} (h : PcOk Try.prog FNw c) (h1 : ∀ i, i < c.rks.length → c.id + i ≠ 115 ∧ c.id + i ≠ 117) (h2 : ∀ i, i ∈ c.pre → i ≠ 115 ∧ i ≠ 117) : PcOk Try.prog FNx c := by
  have e : ∀ j, j ≠ 115 ∧ j ≠ 117 → FNx j = FNw j := fun j hj => by
    funext l
    unfold FNx
    split <;> first | omega | rfl
  exact h.cong (fun i hi => e _ (h1 i hi)) (fun i hi => e _ (h2 i hi))

theorem rput_ta : PcOk Try.prog FNta pcRPut := z_ta (y_z (x_y (w_x (u_w (r_u rput_r (by decide) rfl) (by decide) rfl) (by decide) (by decide)) (by decide) (by decide)) (by decide) (by decide)) (by decide) (by decide)
theorem restsP_ta : PcOk Try.prog FNta pcRestsP := z_ta (y_z restsP_ok (by decide) (by decide)) (by decide) (by decide)
theorem restsM_le (k : Int) (l : List Int) (w : Int) : (restsM k l w).1.length ≤ l.length := by
  unfold restsM
  split
  · simp
  split
  · simp
  · simp [restsL_len]

theorem restsM_len {k : Int} {l : List Int} {w : Int} (h : (restsM k l w).2 = 0) : (restsM k l w).1.length = l.length := by
  unfold restsM at h ⊢
  split at h
  · exact absurd h (by decide)
  split at h
  · exact absurd h (by decide)
  · rename_i h1 h2; rw [if_neg h1, if_neg h2]; exact restsL_len ..

theorem putS_runs_le (zs : List Int) : (putS (runsL zs)).length ≤ 22 * zs.length := by
  have h1 := lenS_le (runsL zs)
  have h2 := runsL_len zs.length zs (Nat.le_refl _)
  rw [putS_len]; omega

def pcTP : Pc := ⟨27, [.int .i64, .sl [.i64], .int .i64, .int .i64], [.sl 5 [.u8], .int .i64], 120, [(1, 0, 4096)], []⟩
theorem mul_small {w h : Int} (hr : rightT w h) : binI .mul .i64 w h = w * h ∧ 1 ≤ w * h ∧ w * h ≤ 256 := by
  obtain ⟨h1, h2, h3, h4⟩ := hr
  have e1 : 1 * 1 ≤ w * h := Int.mul_le_mul h1 h3 (by omega) (by omega)
  have e2 : w * h ≤ 16 * 16 := Int.mul_le_mul h2 h4 (by omega) (by omega)
  exact ⟨wrap_i64 (by omega), by omega, by omega⟩

theorem knTP_ok : ∀ env : Env, env.fn = FNta → KnOk Try.prog env [pcRestsP.ct, pcRPut.ct] := fun env h => knOk_cons (knOk_cons knOk_nil (Pc.ct_ok h rput_ta)) (Pc.ct_ok h restsP_ta)

set_option maxHeartbeats 2000000 in
theorem tput_ok : PcOk Try.prog FNta pcTP := by
  intro w vs ls hargs hrng hpre
  refine pc_inst' mix pcTP knTP_ok (by decide) tput_entry hargs fun e0 hf ha => ?_
  simp only [pcTP, ArgsE, ArgE] at ha
  obtain ⟨_, _, rfl, rfl, l, _, rfl, ⟨hl, _⟩, _, _, rfl, rfl, _, _, rfl, rfl, rfl⟩ := ha
  have hlen := (hrng.1 (.sl [.i64]) l rfl rfl).2
  obtain ⟨k, hk⟩ : ∃ z, vInt (e0.val 0) = z := ⟨_, rfl⟩
  obtain ⟨W, hw⟩ : ∃ z, vInt (e0.val 2) = z := ⟨_, rfl⟩
  obtain ⟨H, hh⟩ : ∃ z, vInt (e0.val 3) = z := ⟨_, rfl⟩
  simp only [measL, List.length_singleton, Nat.div_one, Nat.zero_add, Nat.reduceAdd, hk, hw, hh] at hlen hl ⊢
  have b1 := restsM_le k l W
  have b2 := putS_runs_le (restsM k l W).1
  refine ⟨?_, ?_⟩
  · have b3 : (putS (runsL ([] : List Int))).length ≤ 22 * ([] : List Int).length := putS_runs_le []
    simp only [asTP, rsE, n1E, ltR, atmB, AsOk_cons, AsOk_nil, BE.eval, cmpI, IE.eval, IE.reval, IE.aeval, hf, hk, hw, hl, FNta_118, FNta_105, Nat.div_one]
    simp at b3
    simp [b3]; omega
  · simp only [allLeaves, AsOk_cons, AsOk_nil, BE.eval, cmpI, IE.eval, IE.reval, IE.aeval, hf, hk, hw, hh, hl, FNta_118, FNta_119, FNta_102, FNta_105, List.headD_cons, Nat.div_one, and_true, decide_eq_true_eq, decide_eq_false_iff_not]
    have hP := mul_small (w := W) (h := H)
    have ret : ∀ (code : Int) (M : Mem), tputM k l W H = ([], code) → StepG FNta [[k], l, [W], [H]] pcTP.id pcTP.rks (fun _ _ => False) (fun _ _ => (0, 0)) none e0 (.ret (.tuple [.nilslice, .int .i64 code]) M) := by
      intro code M h
      refine ⟨[_, _], rfl, ⟨by decide, _, rfl, ?_, trivial⟩, ⟨_, rfl, ?_⟩, rfl⟩
      · simp only [IE.reval, pcTP, FNta_120, h]
      · simp only [IE.eval, pcTP, Nat.reduceAdd, FNta_121, h, List.headD_cons]
    have retS : ∀ (ie : IE) (M : Mem), tputM k l W H = ([], ie.eval e0) → StepG FNta [[k], l, [W], [H]] pcTP.id pcTP.rks (fun _ _ => False) (fun _ _ => (0, 0)) none e0 (.ret (.tuple [.nilslice, .sint .i64 ie]) M) := by
      intro ie M h
      refine ⟨[_, _], rfl, ⟨by decide, _, rfl, ?_, trivial⟩, ⟨_, rfl, ?_⟩, rfl⟩
      · simp only [IE.reval, pcTP, FNta_120, h]
      · simp only [pcTP, Nat.reduceAdd, FNta_121, h, List.headD_cons]
    have t3 : ¬ rightT W H → tputM k l W H = ([], 3) := fun h => by rw [tputM, if_pos h]
    have t11 : rightT W H → ¬ (0 ≤ k ∧ k ≤ 2) → tputM k l W H = ([], 11) := fun h h2 => by rw [tputM, if_neg (fun x => x h), if_pos h2]
    have t6 : rightT W H → (0 ≤ k ∧ k ≤ 2) → (l.length : Int) ≠ W * H → tputM k l W H = ([], 6) := fun h h2 h3 => by rw [tputM, if_neg (fun x => x h), if_neg (fun x => x h2), if_pos h3]
    have tE : rightT W H → (0 ≤ k ∧ k ≤ 2) → (l.length : Int) = W * H → (restsM k l W).2 ≠ 0 → tputM k l W H = ([], (restsM k l W).2) := fun h h2 h3 h4 => by rw [tputM, if_neg (fun x => x h), if_neg (fun x => x h2), if_neg (fun x => x h3), if_pos h4]
    have tO : rightT W H → (0 ≤ k ∧ k ≤ 2) → (l.length : Int) = W * H → (restsM k l W).2 = 0 → tputM k l W H = (k :: putS (runsL (restsM k l W).1), 0) := fun h h2 h3 h4 => by rw [tputM, if_neg (fun x => x h), if_neg (fun x => x h2), if_neg (fun x => x h3), if_neg (fun x => x h4)]
    have evE : ∀ (ie : IE), ie = .app 119 (.acons (.rcons (.var 0) .rnil) (.acons (.rvar 1) (.acons (.rcons (.var 2) .rnil) .anil))) → ie.eval e0 = (restsM k l W).2 := by
      rintro _ rfl
      simp only [IE.eval, IE.reval, IE.aeval, hf, hk, hw, hl, FNta_119, List.headD_cons]
    have hR : 1 ≤ W ∧ W ≤ 16 ∧ 1 ≤ H ∧ H ≤ 16 → binI .mul .i64 W H = W * H := fun h => (hP h).1
    repeat' refine And.intro ?_ ?_
    all_goals intro hA
    all_goals first
      | exact ret 3 _ (t3 (by omega))
      | exact ret 11 _ (t11 (by omega) (by omega))
      | (have h0 := hR (by omega); rw [h0] at hA; exact ret 6 _ (t6 (by omega) (by omega) hA.1))
      | (have h0 := hR (by omega); rw [h0] at hA; exact retS _ _ (by rw [evE _ rfl]; exact tE (by omega) (by omega) hA.2.2.1 hA.1))
      | skip
    · have h0 := hR (by omega); rw [h0] at hA
      have hg := tO (by omega) (by omega) hA.2.2.2.1 hA.2.1
      have hk8 : IntKind.u8.wrap k = k := by rw [wrap_u8]; omega
      have hrow : FNta 102 [[IntKind.u8.wrap k], (restsM k l W).1] = (tputM k l W H).1 := by rw [FNta_102, hg, hk8]; rfl
      refine ⟨[_, _], rfl, ⟨by decide, _, rfl, ?_, ?_⟩, ⟨_, rfl, ?_⟩, rfl⟩
      · rw [subE_eval (by simp only [IE.eval, Nat.div_one]; simp)]
        simp only [IE.reval, IE.eval, IE.aeval, hf, hk, hw, hl, pcTP, FNta_118, FNta_120, hrow, Nat.div_one]
        exact sub_all2 rfl
      · refine ⟨by simp only [IE.eval, IE.reval, Nat.div_one]; omega, fun B r cnt ks' h1 h2 => ?_⟩
        obtain rfl := Option.some.inj h1
        cases h2
        exact Int.le_refl _
      · simp only [IE.eval, pcTP, Nat.reduceAdd, FNta_121, hg, List.headD_cons]
    · exfalso; have := hA.1; simp at this
    · exfalso
      have h0 := hR (by omega); rw [h0] at hA
      have := restsM_len hA.2.1
      have := (hP (by omega)).2.1
      omega
    · exfalso; have := hA.1; simp at this

end Go.Proofs.Ytkfejcffacbngaa.J


namespace Go.Proofs.Ytkfejcffacbngaa.J

open Go Go.Sym

set_option linter.unusedVariables false

end Go.Proofs.Ytkfejcffacbngaa.J


namespace Go.Proofs.Ytkfejcffacbngaa.J

open Go Go.Sym

set_option linter.unusedVariables false

abbrev akTG : List ArgK := [.sl [.u8], .int .i64, .int .i64]
abbrev gTG : IE := .acons (.rvar 0) (.acons (.rcons (.lit 1) .rnil) (.acons (.rcons (.bin .mul .i64 (.var 1) (.var 2)) .rnil) .anil))
abbrev rTG : IE := .rapp 106 gTG
abbrev asTG : As := [(atmB (.rlen (.rvar 0) 1) (.lit 16384), true), (atmB (.rlen rTG 1) (.lit 1048576), true), (.cmp .eql (.app 111 gTG) (.lit 1), true)]

theorem tget_entry : entryK Try.prog [pcRGet.ct, pcCellsP.ct] 50 400 31 [] 3 (argSVs 0 akTG) 16 asTG = some [([(.cmp .lss (.var 1) (.lit 1), true), (.not (.cmp .lss (.lit 16384) (.rlen (.rvar 0) 1)), true), (.not (.cmp .lss (.lit 1048576) (.rlen (.rapp 106 (.acons (.rvar 0) (.acons (.rcons (.lit 1) .rnil) (.acons (.rcons (.bin .mul .i64 (.var 1) (.var 2)) .rnil) .anil)))) 1)), true), (.cmp .eql (.app 111 (.acons (.rvar 0) (.acons (.rcons (.lit 1) .rnil) (.acons (.rcons (.bin .mul .i64 (.var 1) (.var 2)) .rnil) .anil)))) (.lit 1), true)], .ret (.tuple [.nilslice, .int .i64 0, .int .i64 3]) ⟨0, .nil⟩), ([(.cmp .lss (.lit 16) (.var 1), true), (.cmp .lss (.var 1) (.lit 1), false), (.not (.cmp .lss (.lit 16384) (.rlen (.rvar 0) 1)), true), (.not (.cmp .lss (.lit 1048576) (.rlen (.rapp 106 (.acons (.rvar 0) (.acons (.rcons (.lit 1) .rnil) (.acons (.rcons (.bin .mul .i64 (.var 1) (.var 2)) .rnil) .anil)))) 1)), true), (.cmp .eql (.app 111 (.acons (.rvar 0) (.acons (.rcons (.lit 1) .rnil) (.acons (.rcons (.bin .mul .i64 (.var 1) (.var 2)) .rnil) .anil)))) (.lit 1), true)], .ret (.tuple [.nilslice, .int .i64 0, .int .i64 3]) ⟨0, .nil⟩), ([(.cmp .lss (.var 2) (.lit 1), true), (.cmp .lss (.lit 16) (.var 1), false), (.cmp .lss (.var 1) (.lit 1), false), (.not (.cmp .lss (.lit 16384) (.rlen (.rvar 0) 1)), true), (.not (.cmp .lss (.lit 1048576) (.rlen (.rapp 106 (.acons (.rvar 0) (.acons (.rcons (.lit 1) .rnil) (.acons (.rcons (.bin .mul .i64 (.var 1) (.var 2)) .rnil) .anil)))) 1)), true), (.cmp .eql (.app 111 (.acons (.rvar 0) (.acons (.rcons (.lit 1) .rnil) (.acons (.rcons (.bin .mul .i64 (.var 1) (.var 2)) .rnil) .anil)))) (.lit 1), true)], .ret (.tuple [.nilslice, .int .i64 0, .int .i64 3]) ⟨0, .nil⟩), ([(.cmp .lss (.lit 16) (.var 2), true), (.cmp .lss (.var 2) (.lit 1), false), (.cmp .lss (.lit 16) (.var 1), false), (.cmp .lss (.var 1) (.lit 1), false), (.not (.cmp .lss (.lit 16384) (.rlen (.rvar 0) 1)), true), (.not (.cmp .lss (.lit 1048576) (.rlen (.rapp 106 (.acons (.rvar 0) (.acons (.rcons (.lit 1) .rnil) (.acons (.rcons (.bin .mul .i64 (.var 1) (.var 2)) .rnil) .anil)))) 1)), true), (.cmp .eql (.app 111 (.acons (.rvar 0) (.acons (.rcons (.lit 1) .rnil) (.acons (.rcons (.bin .mul .i64 (.var 1) (.var 2)) .rnil) .anil)))) (.lit 1), true)], .ret (.tuple [.nilslice, .int .i64 0, .int .i64 3]) ⟨0, .nil⟩), ([(.cmp .eql (.rlen (.rvar 0) 1) (.lit 0), true), (.cmp .lss (.lit 16) (.var 2), false), (.cmp .lss (.var 2) (.lit 1), false), (.cmp .lss (.lit 16) (.var 1), false), (.cmp .lss (.var 1) (.lit 1), false), (.not (.cmp .lss (.lit 16384) (.rlen (.rvar 0) 1)), true), (.not (.cmp .lss (.lit 1048576) (.rlen (.rapp 106 (.acons (.rvar 0) (.acons (.rcons (.lit 1) .rnil) (.acons (.rcons (.bin .mul .i64 (.var 1) (.var 2)) .rnil) .anil)))) 1)), true), (.cmp .eql (.app 111 (.acons (.rvar 0) (.acons (.rcons (.lit 1) .rnil) (.acons (.rcons (.bin .mul .i64 (.var 1) (.var 2)) .rnil) .anil)))) (.lit 1), true)], .ret (.tuple [.nilslice, .int .i64 0, .int .i64 14]) ⟨0, .nil⟩), ([(.cmp .lss (.wrap .i64 (.sel (.rvar 0) (.lit 0) 1 0)) (.lit 0), true), (.cmp .lss (.lit 0) (.rlen (.rvar 0) 1), true), (.cmp .eql (.rlen (.rvar 0) 1) (.lit 0), false), (.cmp .lss (.lit 16) (.var 2), false), (.cmp .lss (.var 2) (.lit 1), false), (.cmp .lss (.lit 16) (.var 1), false), (.cmp .lss (.var 1) (.lit 1), false), (.not (.cmp .lss (.lit 16384) (.rlen (.rvar 0) 1)), true), (.not (.cmp .lss (.lit 1048576) (.rlen (.rapp 106 (.acons (.rvar 0) (.acons (.rcons (.lit 1) .rnil) (.acons (.rcons (.bin .mul .i64 (.var 1) (.var 2)) .rnil) .anil)))) 1)), true), (.cmp .eql (.app 111 (.acons (.rvar 0) (.acons (.rcons (.lit 1) .rnil) (.acons (.rcons (.bin .mul .i64 (.var 1) (.var 2)) .rnil) .anil)))) (.lit 1), true)], .ret (.tuple [.nilslice, .int .i64 0, .int .i64 13]) ⟨0, .nil⟩), ([(.cmp .lss (.lit 2) (.wrap .i64 (.sel (.rvar 0) (.lit 0) 1 0)), true), (.cmp .lss (.wrap .i64 (.sel (.rvar 0) (.lit 0) 1 0)) (.lit 0), false), (.cmp .lss (.lit 0) (.rlen (.rvar 0) 1), true), (.cmp .eql (.rlen (.rvar 0) 1) (.lit 0), false), (.cmp .lss (.lit 16) (.var 2), false), (.cmp .lss (.var 2) (.lit 1), false), (.cmp .lss (.lit 16) (.var 1), false), (.cmp .lss (.var 1) (.lit 1), false), (.not (.cmp .lss (.lit 16384) (.rlen (.rvar 0) 1)), true), (.not (.cmp .lss (.lit 1048576) (.rlen (.rapp 106 (.acons (.rvar 0) (.acons (.rcons (.lit 1) .rnil) (.acons (.rcons (.bin .mul .i64 (.var 1) (.var 2)) .rnil) .anil)))) 1)), true), (.cmp .eql (.app 111 (.acons (.rvar 0) (.acons (.rcons (.lit 1) .rnil) (.acons (.rcons (.bin .mul .i64 (.var 1) (.var 2)) .rnil) .anil)))) (.lit 1), true)], .ret (.tuple [.nilslice, .int .i64 0, .int .i64 13]) ⟨0, .nil⟩), ([(.cmp .eql (.app 123 (.acons (.rcons (.wrap .i64 (.sel (.rvar 0) (.lit 0) 1 0)) .rnil) (.acons (.rapp 106 (.acons (.rvar 0) (.acons (.rcons (.lit 1) .rnil) (.acons (.rcons (.bin .mul .i64 (.var 1) (.var 2)) .rnil) .anil)))) (.acons (.rcons (.var 1) .rnil) .anil)))) (.lit 0), true), (.cmp .lss (.lit 0) (.rlen (.rapp 122 (.acons (.rcons (.wrap .i64 (.sel (.rvar 0) (.lit 0) 1 0)) .rnil) (.acons (.rapp 106 (.acons (.rvar 0) (.acons (.rcons (.lit 1) .rnil) (.acons (.rcons (.bin .mul .i64 (.var 1) (.var 2)) .rnil) .anil)))) (.acons (.rcons (.var 1) .rnil) .anil)))) 1), true), (.cmp .eql (.app 107 (.acons (.rvar 0) (.acons (.rcons (.lit 1) .rnil) (.acons (.rcons (.bin .mul .i64 (.var 1) (.var 2)) .rnil) .anil)))) (.rlen (.rvar 0) 1), true), (.cmp .eql (.app 108 (.acons (.rvar 0) (.acons (.rcons (.lit 1) .rnil) (.acons (.rcons (.bin .mul .i64 (.var 1) (.var 2)) .rnil) .anil)))) (.lit 0), true), (.cmp .lss (.lit 0) (.rlen (.rapp 106 (.acons (.rvar 0) (.acons (.rcons (.lit 1) .rnil) (.acons (.rcons (.bin .mul .i64 (.var 1) (.var 2)) .rnil) .anil)))) 1), true), (.cmp .lss (.lit 2) (.wrap .i64 (.sel (.rvar 0) (.lit 0) 1 0)), false), (.cmp .lss (.wrap .i64 (.sel (.rvar 0) (.lit 0) 1 0)) (.lit 0), false), (.cmp .lss (.lit 0) (.rlen (.rvar 0) 1), true), (.cmp .eql (.rlen (.rvar 0) 1) (.lit 0), false), (.cmp .lss (.lit 16) (.var 2), false), (.cmp .lss (.var 2) (.lit 1), false), (.cmp .lss (.lit 16) (.var 1), false), (.cmp .lss (.var 1) (.lit 1), false), (.not (.cmp .lss (.lit 16384) (.rlen (.rvar 0) 1)), true), (.not (.cmp .lss (.lit 1048576) (.rlen (.rapp 106 (.acons (.rvar 0) (.acons (.rcons (.lit 1) .rnil) (.acons (.rcons (.bin .mul .i64 (.var 1) (.var 2)) .rnil) .anil)))) 1)), true), (.cmp .eql (.app 111 (.acons (.rvar 0) (.acons (.rcons (.lit 1) .rnil) (.acons (.rcons (.bin .mul .i64 (.var 1) (.var 2)) .rnil) .anil)))) (.lit 1), true)], .ret (.tuple [.rsl (.own 1) (.lit 0) (.rlen (.rapp 122 (.acons (.rcons (.wrap .i64 (.sel (.rvar 0) (.lit 0) 1 0)) .rnil) (.acons (.rapp 106 (.acons (.rvar 0) (.acons (.rcons (.lit 1) .rnil) (.acons (.rcons (.bin .mul .i64 (.var 1) (.var 2)) .rnil) .anil)))) (.acons (.rcons (.var 1) .rnil) .anil)))) 1) 1, .sint .i64 (.wrap .i64 (.sel (.rvar 0) (.lit 0) 1 0)), .int .i64 0]) ⟨2, (.node (some ⟨2, 0, [], .nil, true, (some (.rapp 106 (.acons (.rvar 0) (.acons (.rcons (.lit 1) .rnil) (.acons (.rcons (.bin .mul .i64 (.var 1) (.var 2)) .rnil) .anil))), (.rlen (.rapp 106 (.acons (.rvar 0) (.acons (.rcons (.lit 1) .rnil) (.acons (.rcons (.bin .mul .i64 (.var 1) (.var 2)) .rnil) .anil)))) 1, [.i64])))⟩) (.node (some ⟨2, 0, [], .nil, true, (some (.rapp 122 (.acons (.rcons (.wrap .i64 (.sel (.rvar 0) (.lit 0) 1 0)) .rnil) (.acons (.rapp 106 (.acons (.rvar 0) (.acons (.rcons (.lit 1) .rnil) (.acons (.rcons (.bin .mul .i64 (.var 1) (.var 2)) .rnil) .anil)))) (.acons (.rcons (.var 1) .rnil) .anil))), (.rlen (.rapp 122 (.acons (.rcons (.wrap .i64 (.sel (.rvar 0) (.lit 0) 1 0)) .rnil) (.acons (.rapp 106 (.acons (.rvar 0) (.acons (.rcons (.lit 1) .rnil) (.acons (.rcons (.bin .mul .i64 (.var 1) (.var 2)) .rnil) .anil)))) (.acons (.rcons (.var 1) .rnil) .anil)))) 1, [.i64])))⟩) .nil .nil) .nil)⟩), ([(.cmp .eql (.app 123 (.acons (.rcons (.wrap .i64 (.sel (.rvar 0) (.lit 0) 1 0)) .rnil) (.acons (.rapp 106 (.acons (.rvar 0) (.acons (.rcons (.lit 1) .rnil) (.acons (.rcons (.bin .mul .i64 (.var 1) (.var 2)) .rnil) .anil)))) (.acons (.rcons (.var 1) .rnil) .anil)))) (.lit 0), false), (.cmp .lss (.lit 0) (.rlen (.rapp 122 (.acons (.rcons (.wrap .i64 (.sel (.rvar 0) (.lit 0) 1 0)) .rnil) (.acons (.rapp 106 (.acons (.rvar 0) (.acons (.rcons (.lit 1) .rnil) (.acons (.rcons (.bin .mul .i64 (.var 1) (.var 2)) .rnil) .anil)))) (.acons (.rcons (.var 1) .rnil) .anil)))) 1), true), (.cmp .eql (.app 107 (.acons (.rvar 0) (.acons (.rcons (.lit 1) .rnil) (.acons (.rcons (.bin .mul .i64 (.var 1) (.var 2)) .rnil) .anil)))) (.rlen (.rvar 0) 1), true), (.cmp .eql (.app 108 (.acons (.rvar 0) (.acons (.rcons (.lit 1) .rnil) (.acons (.rcons (.bin .mul .i64 (.var 1) (.var 2)) .rnil) .anil)))) (.lit 0), true), (.cmp .lss (.lit 0) (.rlen (.rapp 106 (.acons (.rvar 0) (.acons (.rcons (.lit 1) .rnil) (.acons (.rcons (.bin .mul .i64 (.var 1) (.var 2)) .rnil) .anil)))) 1), true), (.cmp .lss (.lit 2) (.wrap .i64 (.sel (.rvar 0) (.lit 0) 1 0)), false), (.cmp .lss (.wrap .i64 (.sel (.rvar 0) (.lit 0) 1 0)) (.lit 0), false), (.cmp .lss (.lit 0) (.rlen (.rvar 0) 1), true), (.cmp .eql (.rlen (.rvar 0) 1) (.lit 0), false), (.cmp .lss (.lit 16) (.var 2), false), (.cmp .lss (.var 2) (.lit 1), false), (.cmp .lss (.lit 16) (.var 1), false), (.cmp .lss (.var 1) (.lit 1), false), (.not (.cmp .lss (.lit 16384) (.rlen (.rvar 0) 1)), true), (.not (.cmp .lss (.lit 1048576) (.rlen (.rapp 106 (.acons (.rvar 0) (.acons (.rcons (.lit 1) .rnil) (.acons (.rcons (.bin .mul .i64 (.var 1) (.var 2)) .rnil) .anil)))) 1)), true), (.cmp .eql (.app 111 (.acons (.rvar 0) (.acons (.rcons (.lit 1) .rnil) (.acons (.rcons (.bin .mul .i64 (.var 1) (.var 2)) .rnil) .anil)))) (.lit 1), true)], .ret (.tuple [.nilslice, .int .i64 0, .sint .i64 (.app 123 (.acons (.rcons (.wrap .i64 (.sel (.rvar 0) (.lit 0) 1 0)) .rnil) (.acons (.rapp 106 (.acons (.rvar 0) (.acons (.rcons (.lit 1) .rnil) (.acons (.rcons (.bin .mul .i64 (.var 1) (.var 2)) .rnil) .anil)))) (.acons (.rcons (.var 1) .rnil) .anil))))]) ⟨0, .nil⟩), ([(.cmp .eql (.app 123 (.acons (.rcons (.wrap .i64 (.sel (.rvar 0) (.lit 0) 1 0)) .rnil) (.acons (.rapp 106 (.acons (.rvar 0) (.acons (.rcons (.lit 1) .rnil) (.acons (.rcons (.bin .mul .i64 (.var 1) (.var 2)) .rnil) .anil)))) (.acons (.rcons (.var 1) .rnil) .anil)))) (.lit 0), true), (.cmp .lss (.lit 0) (.rlen (.rapp 122 (.acons (.rcons (.wrap .i64 (.sel (.rvar 0) (.lit 0) 1 0)) .rnil) (.acons (.rapp 106 (.acons (.rvar 0) (.acons (.rcons (.lit 1) .rnil) (.acons (.rcons (.bin .mul .i64 (.var 1) (.var 2)) .rnil) .anil)))) (.acons (.rcons (.var 1) .rnil) .anil)))) 1), false), (.cmp .eql (.app 107 (.acons (.rvar 0) (.acons (.rcons (.lit 1) .rnil) (.acons (.rcons (.bin .mul .i64 (.var 1) (.var 2)) .rnil) .anil)))) (.rlen (.rvar 0) 1), true), (.cmp .eql (.app 108 (.acons (.rvar 0) (.acons (.rcons (.lit 1) .rnil) (.acons (.rcons (.bin .mul .i64 (.var 1) (.var 2)) .rnil) .anil)))) (.lit 0), true), (.cmp .lss (.lit 0) (.rlen (.rapp 106 (.acons (.rvar 0) (.acons (.rcons (.lit 1) .rnil) (.acons (.rcons (.bin .mul .i64 (.var 1) (.var 2)) .rnil) .anil)))) 1), true), (.cmp .lss (.lit 2) (.wrap .i64 (.sel (.rvar 0) (.lit 0) 1 0)), false), (.cmp .lss (.wrap .i64 (.sel (.rvar 0) (.lit 0) 1 0)) (.lit 0), false), (.cmp .lss (.lit 0) (.rlen (.rvar 0) 1), true), (.cmp .eql (.rlen (.rvar 0) 1) (.lit 0), false), (.cmp .lss (.lit 16) (.var 2), false), (.cmp .lss (.var 2) (.lit 1), false), (.cmp .lss (.lit 16) (.var 1), false), (.cmp .lss (.var 1) (.lit 1), false), (.not (.cmp .lss (.lit 16384) (.rlen (.rvar 0) 1)), true), (.not (.cmp .lss (.lit 1048576) (.rlen (.rapp 106 (.acons (.rvar 0) (.acons (.rcons (.lit 1) .rnil) (.acons (.rcons (.bin .mul .i64 (.var 1) (.var 2)) .rnil) .anil)))) 1)), true), (.cmp .eql (.app 111 (.acons (.rvar 0) (.acons (.rcons (.lit 1) .rnil) (.acons (.rcons (.bin .mul .i64 (.var 1) (.var 2)) .rnil) .anil)))) (.lit 1), true)], .ret (.tuple [.e0, .sint .i64 (.wrap .i64 (.sel (.rvar 0) (.lit 0) 1 0)), .int .i64 0]) ⟨0, .nil⟩), ([(.cmp .eql (.app 123 (.acons (.rcons (.wrap .i64 (.sel (.rvar 0) (.lit 0) 1 0)) .rnil) (.acons (.rapp 106 (.acons (.rvar 0) (.acons (.rcons (.lit 1) .rnil) (.acons (.rcons (.bin .mul .i64 (.var 1) (.var 2)) .rnil) .anil)))) (.acons (.rcons (.var 1) .rnil) .anil)))) (.lit 0), false), (.cmp .lss (.lit 0) (.rlen (.rapp 122 (.acons (.rcons (.wrap .i64 (.sel (.rvar 0) (.lit 0) 1 0)) .rnil) (.acons (.rapp 106 (.acons (.rvar 0) (.acons (.rcons (.lit 1) .rnil) (.acons (.rcons (.bin .mul .i64 (.var 1) (.var 2)) .rnil) .anil)))) (.acons (.rcons (.var 1) .rnil) .anil)))) 1), false), (.cmp .eql (.app 107 (.acons (.rvar 0) (.acons (.rcons (.lit 1) .rnil) (.acons (.rcons (.bin .mul .i64 (.var 1) (.var 2)) .rnil) .anil)))) (.rlen (.rvar 0) 1), true), (.cmp .eql (.app 108 (.acons (.rvar 0) (.acons (.rcons (.lit 1) .rnil) (.acons (.rcons (.bin .mul .i64 (.var 1) (.var 2)) .rnil) .anil)))) (.lit 0), true), (.cmp .lss (.lit 0) (.rlen (.rapp 106 (.acons (.rvar 0) (.acons (.rcons (.lit 1) .rnil) (.acons (.rcons (.bin .mul .i64 (.var 1) (.var 2)) .rnil) .anil)))) 1), true), (.cmp .lss (.lit 2) (.wrap .i64 (.sel (.rvar 0) (.lit 0) 1 0)), false), (.cmp .lss (.wrap .i64 (.sel (.rvar 0) (.lit 0) 1 0)) (.lit 0), false), (.cmp .lss (.lit 0) (.rlen (.rvar 0) 1), true), (.cmp .eql (.rlen (.rvar 0) 1) (.lit 0), false), (.cmp .lss (.lit 16) (.var 2), false), (.cmp .lss (.var 2) (.lit 1), false), (.cmp .lss (.lit 16) (.var 1), false), (.cmp .lss (.var 1) (.lit 1), false), (.not (.cmp .lss (.lit 16384) (.rlen (.rvar 0) 1)), true), (.not (.cmp .lss (.lit 1048576) (.rlen (.rapp 106 (.acons (.rvar 0) (.acons (.rcons (.lit 1) .rnil) (.acons (.rcons (.bin .mul .i64 (.var 1) (.var 2)) .rnil) .anil)))) 1)), true), (.cmp .eql (.app 111 (.acons (.rvar 0) (.acons (.rcons (.lit 1) .rnil) (.acons (.rcons (.bin .mul .i64 (.var 1) (.var 2)) .rnil) .anil)))) (.lit 1), true)], .ret (.tuple [.nilslice, .int .i64 0, .sint .i64 (.app 123 (.acons (.rcons (.wrap .i64 (.sel (.rvar 0) (.lit 0) 1 0)) .rnil) (.acons (.rapp 106 (.acons (.rvar 0) (.acons (.rcons (.lit 1) .rnil) (.acons (.rcons (.bin .mul .i64 (.var 1) (.var 2)) .rnil) .anil)))) (.acons (.rcons (.var 1) .rnil) .anil))))]) ⟨0, .nil⟩), ([(.cmp .eql (.app 107 (.acons (.rvar 0) (.acons (.rcons (.lit 1) .rnil) (.acons (.rcons (.bin .mul .i64 (.var 1) (.var 2)) .rnil) .anil)))) (.rlen (.rvar 0) 1), false), (.cmp .eql (.app 108 (.acons (.rvar 0) (.acons (.rcons (.lit 1) .rnil) (.acons (.rcons (.bin .mul .i64 (.var 1) (.var 2)) .rnil) .anil)))) (.lit 0), true), (.cmp .lss (.lit 0) (.rlen (.rapp 106 (.acons (.rvar 0) (.acons (.rcons (.lit 1) .rnil) (.acons (.rcons (.bin .mul .i64 (.var 1) (.var 2)) .rnil) .anil)))) 1), true), (.cmp .lss (.lit 2) (.wrap .i64 (.sel (.rvar 0) (.lit 0) 1 0)), false), (.cmp .lss (.wrap .i64 (.sel (.rvar 0) (.lit 0) 1 0)) (.lit 0), false), (.cmp .lss (.lit 0) (.rlen (.rvar 0) 1), true), (.cmp .eql (.rlen (.rvar 0) 1) (.lit 0), false), (.cmp .lss (.lit 16) (.var 2), false), (.cmp .lss (.var 2) (.lit 1), false), (.cmp .lss (.lit 16) (.var 1), false), (.cmp .lss (.var 1) (.lit 1), false), (.not (.cmp .lss (.lit 16384) (.rlen (.rvar 0) 1)), true), (.not (.cmp .lss (.lit 1048576) (.rlen (.rapp 106 (.acons (.rvar 0) (.acons (.rcons (.lit 1) .rnil) (.acons (.rcons (.bin .mul .i64 (.var 1) (.var 2)) .rnil) .anil)))) 1)), true), (.cmp .eql (.app 111 (.acons (.rvar 0) (.acons (.rcons (.lit 1) .rnil) (.acons (.rcons (.bin .mul .i64 (.var 1) (.var 2)) .rnil) .anil)))) (.lit 1), true)], .ret (.tuple [.nilslice, .int .i64 0, .int .i64 13]) ⟨0, .nil⟩), ([(.cmp .eql (.app 108 (.acons (.rvar 0) (.acons (.rcons (.lit 1) .rnil) (.acons (.rcons (.bin .mul .i64 (.var 1) (.var 2)) .rnil) .anil)))) (.lit 0), false), (.cmp .lss (.lit 0) (.rlen (.rapp 106 (.acons (.rvar 0) (.acons (.rcons (.lit 1) .rnil) (.acons (.rcons (.bin .mul .i64 (.var 1) (.var 2)) .rnil) .anil)))) 1), true), (.cmp .lss (.lit 2) (.wrap .i64 (.sel (.rvar 0) (.lit 0) 1 0)), false), (.cmp .lss (.wrap .i64 (.sel (.rvar 0) (.lit 0) 1 0)) (.lit 0), false), (.cmp .lss (.lit 0) (.rlen (.rvar 0) 1), true), (.cmp .eql (.rlen (.rvar 0) 1) (.lit 0), false), (.cmp .lss (.lit 16) (.var 2), false), (.cmp .lss (.var 2) (.lit 1), false), (.cmp .lss (.lit 16) (.var 1), false), (.cmp .lss (.var 1) (.lit 1), false), (.not (.cmp .lss (.lit 16384) (.rlen (.rvar 0) 1)), true), (.not (.cmp .lss (.lit 1048576) (.rlen (.rapp 106 (.acons (.rvar 0) (.acons (.rcons (.lit 1) .rnil) (.acons (.rcons (.bin .mul .i64 (.var 1) (.var 2)) .rnil) .anil)))) 1)), true), (.cmp .eql (.app 111 (.acons (.rvar 0) (.acons (.rcons (.lit 1) .rnil) (.acons (.rcons (.bin .mul .i64 (.var 1) (.var 2)) .rnil) .anil)))) (.lit 1), true)], .ret (.tuple [.nilslice, .int .i64 0, .sint .i64 (.app 108 (.acons (.rvar 0) (.acons (.rcons (.lit 1) .rnil) (.acons (.rcons (.bin .mul .i64 (.var 1) (.var 2)) .rnil) .anil))))]) ⟨0, .nil⟩), ([(.cmp .eql (.app 123 (.acons (.rcons (.wrap .i64 (.sel (.rvar 0) (.lit 0) 1 0)) .rnil) (.acons .rnil (.acons (.rcons (.var 1) .rnil) .anil)))) (.lit 0), true), (.cmp .lss (.lit 0) (.rlen (.rapp 122 (.acons (.rcons (.wrap .i64 (.sel (.rvar 0) (.lit 0) 1 0)) .rnil) (.acons .rnil (.acons (.rcons (.var 1) .rnil) .anil)))) 1), true), (.cmp .eql (.app 107 (.acons (.rvar 0) (.acons (.rcons (.lit 1) .rnil) (.acons (.rcons (.bin .mul .i64 (.var 1) (.var 2)) .rnil) .anil)))) (.rlen (.rvar 0) 1), true), (.cmp .eql (.app 108 (.acons (.rvar 0) (.acons (.rcons (.lit 1) .rnil) (.acons (.rcons (.bin .mul .i64 (.var 1) (.var 2)) .rnil) .anil)))) (.lit 0), true), (.cmp .lss (.lit 0) (.rlen (.rapp 106 (.acons (.rvar 0) (.acons (.rcons (.lit 1) .rnil) (.acons (.rcons (.bin .mul .i64 (.var 1) (.var 2)) .rnil) .anil)))) 1), false), (.cmp .lss (.lit 2) (.wrap .i64 (.sel (.rvar 0) (.lit 0) 1 0)), false), (.cmp .lss (.wrap .i64 (.sel (.rvar 0) (.lit 0) 1 0)) (.lit 0), false), (.cmp .lss (.lit 0) (.rlen (.rvar 0) 1), true), (.cmp .eql (.rlen (.rvar 0) 1) (.lit 0), false), (.cmp .lss (.lit 16) (.var 2), false), (.cmp .lss (.var 2) (.lit 1), false), (.cmp .lss (.lit 16) (.var 1), false), (.cmp .lss (.var 1) (.lit 1), false), (.not (.cmp .lss (.lit 16384) (.rlen (.rvar 0) 1)), true), (.not (.cmp .lss (.lit 1048576) (.rlen (.rapp 106 (.acons (.rvar 0) (.acons (.rcons (.lit 1) .rnil) (.acons (.rcons (.bin .mul .i64 (.var 1) (.var 2)) .rnil) .anil)))) 1)), true), (.cmp .eql (.app 111 (.acons (.rvar 0) (.acons (.rcons (.lit 1) .rnil) (.acons (.rcons (.bin .mul .i64 (.var 1) (.var 2)) .rnil) .anil)))) (.lit 1), true)], .ret (.tuple [.rsl (.own 0) (.lit 0) (.rlen (.rapp 122 (.acons (.rcons (.wrap .i64 (.sel (.rvar 0) (.lit 0) 1 0)) .rnil) (.acons .rnil (.acons (.rcons (.var 1) .rnil) .anil)))) 1) 1, .sint .i64 (.wrap .i64 (.sel (.rvar 0) (.lit 0) 1 0)), .int .i64 0]) ⟨1, (.node (some ⟨2, 0, [], .nil, true, (some (.rapp 122 (.acons (.rcons (.wrap .i64 (.sel (.rvar 0) (.lit 0) 1 0)) .rnil) (.acons .rnil (.acons (.rcons (.var 1) .rnil) .anil))), (.rlen (.rapp 122 (.acons (.rcons (.wrap .i64 (.sel (.rvar 0) (.lit 0) 1 0)) .rnil) (.acons .rnil (.acons (.rcons (.var 1) .rnil) .anil)))) 1, [.i64])))⟩) .nil .nil)⟩), ([(.cmp .eql (.app 123 (.acons (.rcons (.wrap .i64 (.sel (.rvar 0) (.lit 0) 1 0)) .rnil) (.acons .rnil (.acons (.rcons (.var 1) .rnil) .anil)))) (.lit 0), false), (.cmp .lss (.lit 0) (.rlen (.rapp 122 (.acons (.rcons (.wrap .i64 (.sel (.rvar 0) (.lit 0) 1 0)) .rnil) (.acons .rnil (.acons (.rcons (.var 1) .rnil) .anil)))) 1), true), (.cmp .eql (.app 107 (.acons (.rvar 0) (.acons (.rcons (.lit 1) .rnil) (.acons (.rcons (.bin .mul .i64 (.var 1) (.var 2)) .rnil) .anil)))) (.rlen (.rvar 0) 1), true), (.cmp .eql (.app 108 (.acons (.rvar 0) (.acons (.rcons (.lit 1) .rnil) (.acons (.rcons (.bin .mul .i64 (.var 1) (.var 2)) .rnil) .anil)))) (.lit 0), true), (.cmp .lss (.lit 0) (.rlen (.rapp 106 (.acons (.rvar 0) (.acons (.rcons (.lit 1) .rnil) (.acons (.rcons (.bin .mul .i64 (.var 1) (.var 2)) .rnil) .anil)))) 1), false), (.cmp .lss (.lit 2) (.wrap .i64 (.sel (.rvar 0) (.lit 0) 1 0)), false), (.cmp .lss (.wrap .i64 (.sel (.rvar 0) (.lit 0) 1 0)) (.lit 0), false), (.cmp .lss (.lit 0) (.rlen (.rvar 0) 1), true), (.cmp .eql (.rlen (.rvar 0) 1) (.lit 0), false), (.cmp .lss (.lit 16) (.var 2), false), (.cmp .lss (.var 2) (.lit 1), false), (.cmp .lss (.lit 16) (.var 1), false), (.cmp .lss (.var 1) (.lit 1), false), (.not (.cmp .lss (.lit 16384) (.rlen (.rvar 0) 1)), true), (.not (.cmp .lss (.lit 1048576) (.rlen (.rapp 106 (.acons (.rvar 0) (.acons (.rcons (.lit 1) .rnil) (.acons (.rcons (.bin .mul .i64 (.var 1) (.var 2)) .rnil) .anil)))) 1)), true), (.cmp .eql (.app 111 (.acons (.rvar 0) (.acons (.rcons (.lit 1) .rnil) (.acons (.rcons (.bin .mul .i64 (.var 1) (.var 2)) .rnil) .anil)))) (.lit 1), true)], .ret (.tuple [.nilslice, .int .i64 0, .sint .i64 (.app 123 (.acons (.rcons (.wrap .i64 (.sel (.rvar 0) (.lit 0) 1 0)) .rnil) (.acons .rnil (.acons (.rcons (.var 1) .rnil) .anil))))]) ⟨0, .nil⟩), ([(.cmp .eql (.app 123 (.acons (.rcons (.wrap .i64 (.sel (.rvar 0) (.lit 0) 1 0)) .rnil) (.acons .rnil (.acons (.rcons (.var 1) .rnil) .anil)))) (.lit 0), true), (.cmp .lss (.lit 0) (.rlen (.rapp 122 (.acons (.rcons (.wrap .i64 (.sel (.rvar 0) (.lit 0) 1 0)) .rnil) (.acons .rnil (.acons (.rcons (.var 1) .rnil) .anil)))) 1), false), (.cmp .eql (.app 107 (.acons (.rvar 0) (.acons (.rcons (.lit 1) .rnil) (.acons (.rcons (.bin .mul .i64 (.var 1) (.var 2)) .rnil) .anil)))) (.rlen (.rvar 0) 1), true), (.cmp .eql (.app 108 (.acons (.rvar 0) (.acons (.rcons (.lit 1) .rnil) (.acons (.rcons (.bin .mul .i64 (.var 1) (.var 2)) .rnil) .anil)))) (.lit 0), true), (.cmp .lss (.lit 0) (.rlen (.rapp 106 (.acons (.rvar 0) (.acons (.rcons (.lit 1) .rnil) (.acons (.rcons (.bin .mul .i64 (.var 1) (.var 2)) .rnil) .anil)))) 1), false), (.cmp .lss (.lit 2) (.wrap .i64 (.sel (.rvar 0) (.lit 0) 1 0)), false), (.cmp .lss (.wrap .i64 (.sel (.rvar 0) (.lit 0) 1 0)) (.lit 0), false), (.cmp .lss (.lit 0) (.rlen (.rvar 0) 1), true), (.cmp .eql (.rlen (.rvar 0) 1) (.lit 0), false), (.cmp .lss (.lit 16) (.var 2), false), (.cmp .lss (.var 2) (.lit 1), false), (.cmp .lss (.lit 16) (.var 1), false), (.cmp .lss (.var 1) (.lit 1), false), (.not (.cmp .lss (.lit 16384) (.rlen (.rvar 0) 1)), true), (.not (.cmp .lss (.lit 1048576) (.rlen (.rapp 106 (.acons (.rvar 0) (.acons (.rcons (.lit 1) .rnil) (.acons (.rcons (.bin .mul .i64 (.var 1) (.var 2)) .rnil) .anil)))) 1)), true), (.cmp .eql (.app 111 (.acons (.rvar 0) (.acons (.rcons (.lit 1) .rnil) (.acons (.rcons (.bin .mul .i64 (.var 1) (.var 2)) .rnil) .anil)))) (.lit 1), true)], .ret (.tuple [.e0, .sint .i64 (.wrap .i64 (.sel (.rvar 0) (.lit 0) 1 0)), .int .i64 0]) ⟨0, .nil⟩), ([(.cmp .eql (.app 123 (.acons (.rcons (.wrap .i64 (.sel (.rvar 0) (.lit 0) 1 0)) .rnil) (.acons .rnil (.acons (.rcons (.var 1) .rnil) .anil)))) (.lit 0), false), (.cmp .lss (.lit 0) (.rlen (.rapp 122 (.acons (.rcons (.wrap .i64 (.sel (.rvar 0) (.lit 0) 1 0)) .rnil) (.acons .rnil (.acons (.rcons (.var 1) .rnil) .anil)))) 1), false), (.cmp .eql (.app 107 (.acons (.rvar 0) (.acons (.rcons (.lit 1) .rnil) (.acons (.rcons (.bin .mul .i64 (.var 1) (.var 2)) .rnil) .anil)))) (.rlen (.rvar 0) 1), true), (.cmp .eql (.app 108 (.acons (.rvar 0) (.acons (.rcons (.lit 1) .rnil) (.acons (.rcons (.bin .mul .i64 (.var 1) (.var 2)) .rnil) .anil)))) (.lit 0), true), (.cmp .lss (.lit 0) (.rlen (.rapp 106 (.acons (.rvar 0) (.acons (.rcons (.lit 1) .rnil) (.acons (.rcons (.bin .mul .i64 (.var 1) (.var 2)) .rnil) .anil)))) 1), false), (.cmp .lss (.lit 2) (.wrap .i64 (.sel (.rvar 0) (.lit 0) 1 0)), false), (.cmp .lss (.wrap .i64 (.sel (.rvar 0) (.lit 0) 1 0)) (.lit 0), false), (.cmp .lss (.lit 0) (.rlen (.rvar 0) 1), true), (.cmp .eql (.rlen (.rvar 0) 1) (.lit 0), false), (.cmp .lss (.lit 16) (.var 2), false), (.cmp .lss (.var 2) (.lit 1), false), (.cmp .lss (.lit 16) (.var 1), false), (.cmp .lss (.var 1) (.lit 1), false), (.not (.cmp .lss (.lit 16384) (.rlen (.rvar 0) 1)), true), (.not (.cmp .lss (.lit 1048576) (.rlen (.rapp 106 (.acons (.rvar 0) (.acons (.rcons (.lit 1) .rnil) (.acons (.rcons (.bin .mul .i64 (.var 1) (.var 2)) .rnil) .anil)))) 1)), true), (.cmp .eql (.app 111 (.acons (.rvar 0) (.acons (.rcons (.lit 1) .rnil) (.acons (.rcons (.bin .mul .i64 (.var 1) (.var 2)) .rnil) .anil)))) (.lit 1), true)], .ret (.tuple [.nilslice, .int .i64 0, .sint .i64 (.app 123 (.acons (.rcons (.wrap .i64 (.sel (.rvar 0) (.lit 0) 1 0)) .rnil) (.acons .rnil (.acons (.rcons (.var 1) .rnil) .anil))))]) ⟨0, .nil⟩), ([(.cmp .eql (.app 107 (.acons (.rvar 0) (.acons (.rcons (.lit 1) .rnil) (.acons (.rcons (.bin .mul .i64 (.var 1) (.var 2)) .rnil) .anil)))) (.rlen (.rvar 0) 1), false), (.cmp .eql (.app 108 (.acons (.rvar 0) (.acons (.rcons (.lit 1) .rnil) (.acons (.rcons (.bin .mul .i64 (.var 1) (.var 2)) .rnil) .anil)))) (.lit 0), true), (.cmp .lss (.lit 0) (.rlen (.rapp 106 (.acons (.rvar 0) (.acons (.rcons (.lit 1) .rnil) (.acons (.rcons (.bin .mul .i64 (.var 1) (.var 2)) .rnil) .anil)))) 1), false), (.cmp .lss (.lit 2) (.wrap .i64 (.sel (.rvar 0) (.lit 0) 1 0)), false), (.cmp .lss (.wrap .i64 (.sel (.rvar 0) (.lit 0) 1 0)) (.lit 0), false), (.cmp .lss (.lit 0) (.rlen (.rvar 0) 1), true), (.cmp .eql (.rlen (.rvar 0) 1) (.lit 0), false), (.cmp .lss (.lit 16) (.var 2), false), (.cmp .lss (.var 2) (.lit 1), false), (.cmp .lss (.lit 16) (.var 1), false), (.cmp .lss (.var 1) (.lit 1), false), (.not (.cmp .lss (.lit 16384) (.rlen (.rvar 0) 1)), true), (.not (.cmp .lss (.lit 1048576) (.rlen (.rapp 106 (.acons (.rvar 0) (.acons (.rcons (.lit 1) .rnil) (.acons (.rcons (.bin .mul .i64 (.var 1) (.var 2)) .rnil) .anil)))) 1)), true), (.cmp .eql (.app 111 (.acons (.rvar 0) (.acons (.rcons (.lit 1) .rnil) (.acons (.rcons (.bin .mul .i64 (.var 1) (.var 2)) .rnil) .anil)))) (.lit 1), true)], .ret (.tuple [.nilslice, .int .i64 0, .int .i64 13]) ⟨0, .nil⟩), ([(.cmp .eql (.app 108 (.acons (.rvar 0) (.acons (.rcons (.lit 1) .rnil) (.acons (.rcons (.bin .mul .i64 (.var 1) (.var 2)) .rnil) .anil)))) (.lit 0), false), (.cmp .lss (.lit 0) (.rlen (.rapp 106 (.acons (.rvar 0) (.acons (.rcons (.lit 1) .rnil) (.acons (.rcons (.bin .mul .i64 (.var 1) (.var 2)) .rnil) .anil)))) 1), false), (.cmp .lss (.lit 2) (.wrap .i64 (.sel (.rvar 0) (.lit 0) 1 0)), false), (.cmp .lss (.wrap .i64 (.sel (.rvar 0) (.lit 0) 1 0)) (.lit 0), false), (.cmp .lss (.lit 0) (.rlen (.rvar 0) 1), true), (.cmp .eql (.rlen (.rvar 0) 1) (.lit 0), false), (.cmp .lss (.lit 16) (.var 2), false), (.cmp .lss (.var 2) (.lit 1), false), (.cmp .lss (.lit 16) (.var 1), false), (.cmp .lss (.var 1) (.lit 1), false), (.not (.cmp .lss (.lit 16384) (.rlen (.rvar 0) 1)), true), (.not (.cmp .lss (.lit 1048576) (.rlen (.rapp 106 (.acons (.rvar 0) (.acons (.rcons (.lit 1) .rnil) (.acons (.rcons (.bin .mul .i64 (.var 1) (.var 2)) .rnil) .anil)))) 1)), true), (.cmp .eql (.app 111 (.acons (.rvar 0) (.acons (.rcons (.lit 1) .rnil) (.acons (.rcons (.bin .mul .i64 (.var 1) (.var 2)) .rnil) .anil)))) (.lit 1), true)], .ret (.tuple [.nilslice, .int .i64 0, .sint .i64 (.app 108 (.acons (.rvar 0) (.acons (.rcons (.lit 1) .rnil) (.acons (.rcons (.bin .mul .i64 (.var 1) (.var 2)) .rnil) .anil))))]) ⟨0, .nil⟩), ([(.cmp .lss (.lit 0) (.rlen (.rvar 0) 1), false), (.cmp .eql (.rlen (.rvar 0) 1) (.lit 0), false), (.cmp .lss (.lit 16) (.var 2), false), (.cmp .lss (.var 2) (.lit 1), false), (.cmp .lss (.lit 16) (.var 1), false), (.cmp .lss (.var 1) (.lit 1), false), (.not (.cmp .lss (.lit 16384) (.rlen (.rvar 0) 1)), true), (.not (.cmp .lss (.lit 1048576) (.rlen (.rapp 106 (.acons (.rvar 0) (.acons (.rcons (.lit 1) .rnil) (.acons (.rcons (.bin .mul .i64 (.var 1) (.var 2)) .rnil) .anil)))) 1)), true), (.cmp .eql (.app 111 (.acons (.rvar 0) (.acons (.rcons (.lit 1) .rnil) (.acons (.rcons (.bin .mul .i64 (.var 1) (.var 2)) .rnil) .anil)))) (.lit 1), true)], .bad)] := by kernel_rfl

theorem tgetD_entry : entryK Try.prog [pcRGetR.ct, pcCellsD.ct] 50 400 32 [] 3 (argSVs 0 akTG) 16 asTG = some [([(.cmp .eql (.rlen (.rvar 0) 1) (.lit 0), true), (.cmp .lss (.var 2) (.lit 17), true), (.cmp .lss (.lit 0) (.var 2), true), (.cmp .lss (.var 1) (.lit 17), true), (.cmp .lss (.lit 0) (.var 1), true), (.not (.cmp .lss (.lit 16384) (.rlen (.rvar 0) 1)), true), (.not (.cmp .lss (.lit 1048576) (.rlen (.rapp 106 (.acons (.rvar 0) (.acons (.rcons (.lit 1) .rnil) (.acons (.rcons (.bin .mul .i64 (.var 1) (.var 2)) .rnil) .anil)))) 1)), true), (.cmp .eql (.app 111 (.acons (.rvar 0) (.acons (.rcons (.lit 1) .rnil) (.acons (.rcons (.bin .mul .i64 (.var 1) (.var 2)) .rnil) .anil)))) (.lit 1), true)], .ret (.tuple [.nilslice, .int .i64 0, .int .i64 14]) ⟨0, .nil⟩), ([(.cmp .lss (.lit 2) (.sel (.rvar 0) (.lit 0) 1 0), true), (.cmp .lss (.lit 0) (.rlen (.rvar 0) 1), true), (.cmp .eql (.rlen (.rvar 0) 1) (.lit 0), false), (.cmp .lss (.var 2) (.lit 17), true), (.cmp .lss (.lit 0) (.var 2), true), (.cmp .lss (.var 1) (.lit 17), true), (.cmp .lss (.lit 0) (.var 1), true), (.not (.cmp .lss (.lit 16384) (.rlen (.rvar 0) 1)), true), (.not (.cmp .lss (.lit 1048576) (.rlen (.rapp 106 (.acons (.rvar 0) (.acons (.rcons (.lit 1) .rnil) (.acons (.rcons (.bin .mul .i64 (.var 1) (.var 2)) .rnil) .anil)))) 1)), true), (.cmp .eql (.app 111 (.acons (.rvar 0) (.acons (.rcons (.lit 1) .rnil) (.acons (.rcons (.bin .mul .i64 (.var 1) (.var 2)) .rnil) .anil)))) (.lit 1), true)], .ret (.tuple [.nilslice, .int .i64 0, .int .i64 13]) ⟨0, .nil⟩), ([(.cmp .lss (.app 107 (.acons (.rvar 0) (.acons (.rcons (.lit 1) .rnil) (.acons (.rcons (.bin .mul .i64 (.var 1) (.var 2)) .rnil) .anil)))) (.rlen (.rvar 0) 1), true), (.cmp .eql (.app 108 (.acons (.rvar 0) (.acons (.rcons (.lit 1) .rnil) (.acons (.rcons (.bin .mul .i64 (.var 1) (.var 2)) .rnil) .anil)))) (.lit 0), true), (.cmp .lss (.lit 0) (.rlen (.rapp 106 (.acons (.rvar 0) (.acons (.rcons (.lit 1) .rnil) (.acons (.rcons (.bin .mul .i64 (.var 1) (.var 2)) .rnil) .anil)))) 1), true), (.cmp .lss (.lit 2) (.sel (.rvar 0) (.lit 0) 1 0), false), (.cmp .lss (.lit 0) (.rlen (.rvar 0) 1), true), (.cmp .eql (.rlen (.rvar 0) 1) (.lit 0), false), (.cmp .lss (.var 2) (.lit 17), true), (.cmp .lss (.lit 0) (.var 2), true), (.cmp .lss (.var 1) (.lit 17), true), (.cmp .lss (.lit 0) (.var 1), true), (.not (.cmp .lss (.lit 16384) (.rlen (.rvar 0) 1)), true), (.not (.cmp .lss (.lit 1048576) (.rlen (.rapp 106 (.acons (.rvar 0) (.acons (.rcons (.lit 1) .rnil) (.acons (.rcons (.bin .mul .i64 (.var 1) (.var 2)) .rnil) .anil)))) 1)), true), (.cmp .eql (.app 111 (.acons (.rvar 0) (.acons (.rcons (.lit 1) .rnil) (.acons (.rcons (.bin .mul .i64 (.var 1) (.var 2)) .rnil) .anil)))) (.lit 1), true)], .ret (.tuple [.nilslice, .int .i64 0, .int .i64 13]) ⟨0, .nil⟩), ([(.cmp .eql (.app 123 (.acons (.rcons (.wrap .i64 (.sel (.rvar 0) (.lit 0) 1 0)) .rnil) (.acons (.rapp 106 (.acons (.rvar 0) (.acons (.rcons (.lit 1) .rnil) (.acons (.rcons (.bin .mul .i64 (.var 1) (.var 2)) .rnil) .anil)))) (.acons (.rcons (.var 1) .rnil) .anil)))) (.lit 0), true), (.cmp .lss (.lit 0) (.rlen (.rapp 122 (.acons (.rcons (.wrap .i64 (.sel (.rvar 0) (.lit 0) 1 0)) .rnil) (.acons (.rapp 106 (.acons (.rvar 0) (.acons (.rcons (.lit 1) .rnil) (.acons (.rcons (.bin .mul .i64 (.var 1) (.var 2)) .rnil) .anil)))) (.acons (.rcons (.var 1) .rnil) .anil)))) 1), true), (.cmp .lss (.app 107 (.acons (.rvar 0) (.acons (.rcons (.lit 1) .rnil) (.acons (.rcons (.bin .mul .i64 (.var 1) (.var 2)) .rnil) .anil)))) (.rlen (.rvar 0) 1), false), (.cmp .eql (.app 108 (.acons (.rvar 0) (.acons (.rcons (.lit 1) .rnil) (.acons (.rcons (.bin .mul .i64 (.var 1) (.var 2)) .rnil) .anil)))) (.lit 0), true), (.cmp .lss (.lit 0) (.rlen (.rapp 106 (.acons (.rvar 0) (.acons (.rcons (.lit 1) .rnil) (.acons (.rcons (.bin .mul .i64 (.var 1) (.var 2)) .rnil) .anil)))) 1), true), (.cmp .lss (.lit 2) (.sel (.rvar 0) (.lit 0) 1 0), false), (.cmp .lss (.lit 0) (.rlen (.rvar 0) 1), true), (.cmp .eql (.rlen (.rvar 0) 1) (.lit 0), false), (.cmp .lss (.var 2) (.lit 17), true), (.cmp .lss (.lit 0) (.var 2), true), (.cmp .lss (.var 1) (.lit 17), true), (.cmp .lss (.lit 0) (.var 1), true), (.not (.cmp .lss (.lit 16384) (.rlen (.rvar 0) 1)), true), (.not (.cmp .lss (.lit 1048576) (.rlen (.rapp 106 (.acons (.rvar 0) (.acons (.rcons (.lit 1) .rnil) (.acons (.rcons (.bin .mul .i64 (.var 1) (.var 2)) .rnil) .anil)))) 1)), true), (.cmp .eql (.app 111 (.acons (.rvar 0) (.acons (.rcons (.lit 1) .rnil) (.acons (.rcons (.bin .mul .i64 (.var 1) (.var 2)) .rnil) .anil)))) (.lit 1), true)], .ret (.tuple [.rsl (.own 1) (.lit 0) (.rlen (.rapp 122 (.acons (.rcons (.wrap .i64 (.sel (.rvar 0) (.lit 0) 1 0)) .rnil) (.acons (.rapp 106 (.acons (.rvar 0) (.acons (.rcons (.lit 1) .rnil) (.acons (.rcons (.bin .mul .i64 (.var 1) (.var 2)) .rnil) .anil)))) (.acons (.rcons (.var 1) .rnil) .anil)))) 1) 1, .sint .i64 (.wrap .i64 (.sel (.rvar 0) (.lit 0) 1 0)), .int .i64 0]) ⟨2, (.node (some ⟨2, 0, [], .nil, true, (some (.rapp 106 (.acons (.rvar 0) (.acons (.rcons (.lit 1) .rnil) (.acons (.rcons (.bin .mul .i64 (.var 1) (.var 2)) .rnil) .anil))), (.rlen (.rapp 106 (.acons (.rvar 0) (.acons (.rcons (.lit 1) .rnil) (.acons (.rcons (.bin .mul .i64 (.var 1) (.var 2)) .rnil) .anil)))) 1, [.i64])))⟩) (.node (some ⟨2, 0, [], .nil, true, (some (.rapp 122 (.acons (.rcons (.wrap .i64 (.sel (.rvar 0) (.lit 0) 1 0)) .rnil) (.acons (.rapp 106 (.acons (.rvar 0) (.acons (.rcons (.lit 1) .rnil) (.acons (.rcons (.bin .mul .i64 (.var 1) (.var 2)) .rnil) .anil)))) (.acons (.rcons (.var 1) .rnil) .anil))), (.rlen (.rapp 122 (.acons (.rcons (.wrap .i64 (.sel (.rvar 0) (.lit 0) 1 0)) .rnil) (.acons (.rapp 106 (.acons (.rvar 0) (.acons (.rcons (.lit 1) .rnil) (.acons (.rcons (.bin .mul .i64 (.var 1) (.var 2)) .rnil) .anil)))) (.acons (.rcons (.var 1) .rnil) .anil)))) 1, [.i64])))⟩) .nil .nil) .nil)⟩), ([(.cmp .eql (.app 123 (.acons (.rcons (.wrap .i64 (.sel (.rvar 0) (.lit 0) 1 0)) .rnil) (.acons (.rapp 106 (.acons (.rvar 0) (.acons (.rcons (.lit 1) .rnil) (.acons (.rcons (.bin .mul .i64 (.var 1) (.var 2)) .rnil) .anil)))) (.acons (.rcons (.var 1) .rnil) .anil)))) (.lit 0), false), (.cmp .lss (.lit 0) (.rlen (.rapp 122 (.acons (.rcons (.wrap .i64 (.sel (.rvar 0) (.lit 0) 1 0)) .rnil) (.acons (.rapp 106 (.acons (.rvar 0) (.acons (.rcons (.lit 1) .rnil) (.acons (.rcons (.bin .mul .i64 (.var 1) (.var 2)) .rnil) .anil)))) (.acons (.rcons (.var 1) .rnil) .anil)))) 1), true), (.cmp .lss (.app 107 (.acons (.rvar 0) (.acons (.rcons (.lit 1) .rnil) (.acons (.rcons (.bin .mul .i64 (.var 1) (.var 2)) .rnil) .anil)))) (.rlen (.rvar 0) 1), false), (.cmp .eql (.app 108 (.acons (.rvar 0) (.acons (.rcons (.lit 1) .rnil) (.acons (.rcons (.bin .mul .i64 (.var 1) (.var 2)) .rnil) .anil)))) (.lit 0), true), (.cmp .lss (.lit 0) (.rlen (.rapp 106 (.acons (.rvar 0) (.acons (.rcons (.lit 1) .rnil) (.acons (.rcons (.bin .mul .i64 (.var 1) (.var 2)) .rnil) .anil)))) 1), true), (.cmp .lss (.lit 2) (.sel (.rvar 0) (.lit 0) 1 0), false), (.cmp .lss (.lit 0) (.rlen (.rvar 0) 1), true), (.cmp .eql (.rlen (.rvar 0) 1) (.lit 0), false), (.cmp .lss (.var 2) (.lit 17), true), (.cmp .lss (.lit 0) (.var 2), true), (.cmp .lss (.var 1) (.lit 17), true), (.cmp .lss (.lit 0) (.var 1), true), (.not (.cmp .lss (.lit 16384) (.rlen (.rvar 0) 1)), true), (.not (.cmp .lss (.lit 1048576) (.rlen (.rapp 106 (.acons (.rvar 0) (.acons (.rcons (.lit 1) .rnil) (.acons (.rcons (.bin .mul .i64 (.var 1) (.var 2)) .rnil) .anil)))) 1)), true), (.cmp .eql (.app 111 (.acons (.rvar 0) (.acons (.rcons (.lit 1) .rnil) (.acons (.rcons (.bin .mul .i64 (.var 1) (.var 2)) .rnil) .anil)))) (.lit 1), true)], .ret (.tuple [.nilslice, .int .i64 0, .sint .i64 (.app 123 (.acons (.rcons (.wrap .i64 (.sel (.rvar 0) (.lit 0) 1 0)) .rnil) (.acons (.rapp 106 (.acons (.rvar 0) (.acons (.rcons (.lit 1) .rnil) (.acons (.rcons (.bin .mul .i64 (.var 1) (.var 2)) .rnil) .anil)))) (.acons (.rcons (.var 1) .rnil) .anil))))]) ⟨0, .nil⟩), ([(.cmp .eql (.app 123 (.acons (.rcons (.wrap .i64 (.sel (.rvar 0) (.lit 0) 1 0)) .rnil) (.acons (.rapp 106 (.acons (.rvar 0) (.acons (.rcons (.lit 1) .rnil) (.acons (.rcons (.bin .mul .i64 (.var 1) (.var 2)) .rnil) .anil)))) (.acons (.rcons (.var 1) .rnil) .anil)))) (.lit 0), true), (.cmp .lss (.lit 0) (.rlen (.rapp 122 (.acons (.rcons (.wrap .i64 (.sel (.rvar 0) (.lit 0) 1 0)) .rnil) (.acons (.rapp 106 (.acons (.rvar 0) (.acons (.rcons (.lit 1) .rnil) (.acons (.rcons (.bin .mul .i64 (.var 1) (.var 2)) .rnil) .anil)))) (.acons (.rcons (.var 1) .rnil) .anil)))) 1), false), (.cmp .lss (.app 107 (.acons (.rvar 0) (.acons (.rcons (.lit 1) .rnil) (.acons (.rcons (.bin .mul .i64 (.var 1) (.var 2)) .rnil) .anil)))) (.rlen (.rvar 0) 1), false), (.cmp .eql (.app 108 (.acons (.rvar 0) (.acons (.rcons (.lit 1) .rnil) (.acons (.rcons (.bin .mul .i64 (.var 1) (.var 2)) .rnil) .anil)))) (.lit 0), true), (.cmp .lss (.lit 0) (.rlen (.rapp 106 (.acons (.rvar 0) (.acons (.rcons (.lit 1) .rnil) (.acons (.rcons (.bin .mul .i64 (.var 1) (.var 2)) .rnil) .anil)))) 1), true), (.cmp .lss (.lit 2) (.sel (.rvar 0) (.lit 0) 1 0), false), (.cmp .lss (.lit 0) (.rlen (.rvar 0) 1), true), (.cmp .eql (.rlen (.rvar 0) 1) (.lit 0), false), (.cmp .lss (.var 2) (.lit 17), true), (.cmp .lss (.lit 0) (.var 2), true), (.cmp .lss (.var 1) (.lit 17), true), (.cmp .lss (.lit 0) (.var 1), true), (.not (.cmp .lss (.lit 16384) (.rlen (.rvar 0) 1)), true), (.not (.cmp .lss (.lit 1048576) (.rlen (.rapp 106 (.acons (.rvar 0) (.acons (.rcons (.lit 1) .rnil) (.acons (.rcons (.bin .mul .i64 (.var 1) (.var 2)) .rnil) .anil)))) 1)), true), (.cmp .eql (.app 111 (.acons (.rvar 0) (.acons (.rcons (.lit 1) .rnil) (.acons (.rcons (.bin .mul .i64 (.var 1) (.var 2)) .rnil) .anil)))) (.lit 1), true)], .ret (.tuple [.e0, .sint .i64 (.wrap .i64 (.sel (.rvar 0) (.lit 0) 1 0)), .int .i64 0]) ⟨0, .nil⟩), ([(.cmp .eql (.app 123 (.acons (.rcons (.wrap .i64 (.sel (.rvar 0) (.lit 0) 1 0)) .rnil) (.acons (.rapp 106 (.acons (.rvar 0) (.acons (.rcons (.lit 1) .rnil) (.acons (.rcons (.bin .mul .i64 (.var 1) (.var 2)) .rnil) .anil)))) (.acons (.rcons (.var 1) .rnil) .anil)))) (.lit 0), false), (.cmp .lss (.lit 0) (.rlen (.rapp 122 (.acons (.rcons (.wrap .i64 (.sel (.rvar 0) (.lit 0) 1 0)) .rnil) (.acons (.rapp 106 (.acons (.rvar 0) (.acons (.rcons (.lit 1) .rnil) (.acons (.rcons (.bin .mul .i64 (.var 1) (.var 2)) .rnil) .anil)))) (.acons (.rcons (.var 1) .rnil) .anil)))) 1), false), (.cmp .lss (.app 107 (.acons (.rvar 0) (.acons (.rcons (.lit 1) .rnil) (.acons (.rcons (.bin .mul .i64 (.var 1) (.var 2)) .rnil) .anil)))) (.rlen (.rvar 0) 1), false), (.cmp .eql (.app 108 (.acons (.rvar 0) (.acons (.rcons (.lit 1) .rnil) (.acons (.rcons (.bin .mul .i64 (.var 1) (.var 2)) .rnil) .anil)))) (.lit 0), true), (.cmp .lss (.lit 0) (.rlen (.rapp 106 (.acons (.rvar 0) (.acons (.rcons (.lit 1) .rnil) (.acons (.rcons (.bin .mul .i64 (.var 1) (.var 2)) .rnil) .anil)))) 1), true), (.cmp .lss (.lit 2) (.sel (.rvar 0) (.lit 0) 1 0), false), (.cmp .lss (.lit 0) (.rlen (.rvar 0) 1), true), (.cmp .eql (.rlen (.rvar 0) 1) (.lit 0), false), (.cmp .lss (.var 2) (.lit 17), true), (.cmp .lss (.lit 0) (.var 2), true), (.cmp .lss (.var 1) (.lit 17), true), (.cmp .lss (.lit 0) (.var 1), true), (.not (.cmp .lss (.lit 16384) (.rlen (.rvar 0) 1)), true), (.not (.cmp .lss (.lit 1048576) (.rlen (.rapp 106 (.acons (.rvar 0) (.acons (.rcons (.lit 1) .rnil) (.acons (.rcons (.bin .mul .i64 (.var 1) (.var 2)) .rnil) .anil)))) 1)), true), (.cmp .eql (.app 111 (.acons (.rvar 0) (.acons (.rcons (.lit 1) .rnil) (.acons (.rcons (.bin .mul .i64 (.var 1) (.var 2)) .rnil) .anil)))) (.lit 1), true)], .ret (.tuple [.nilslice, .int .i64 0, .sint .i64 (.app 123 (.acons (.rcons (.wrap .i64 (.sel (.rvar 0) (.lit 0) 1 0)) .rnil) (.acons (.rapp 106 (.acons (.rvar 0) (.acons (.rcons (.lit 1) .rnil) (.acons (.rcons (.bin .mul .i64 (.var 1) (.var 2)) .rnil) .anil)))) (.acons (.rcons (.var 1) .rnil) .anil))))]) ⟨0, .nil⟩), ([(.cmp .eql (.app 108 (.acons (.rvar 0) (.acons (.rcons (.lit 1) .rnil) (.acons (.rcons (.bin .mul .i64 (.var 1) (.var 2)) .rnil) .anil)))) (.lit 0), false), (.cmp .lss (.lit 0) (.rlen (.rapp 106 (.acons (.rvar 0) (.acons (.rcons (.lit 1) .rnil) (.acons (.rcons (.bin .mul .i64 (.var 1) (.var 2)) .rnil) .anil)))) 1), true), (.cmp .lss (.lit 2) (.sel (.rvar 0) (.lit 0) 1 0), false), (.cmp .lss (.lit 0) (.rlen (.rvar 0) 1), true), (.cmp .eql (.rlen (.rvar 0) 1) (.lit 0), false), (.cmp .lss (.var 2) (.lit 17), true), (.cmp .lss (.lit 0) (.var 2), true), (.cmp .lss (.var 1) (.lit 17), true), (.cmp .lss (.lit 0) (.var 1), true), (.not (.cmp .lss (.lit 16384) (.rlen (.rvar 0) 1)), true), (.not (.cmp .lss (.lit 1048576) (.rlen (.rapp 106 (.acons (.rvar 0) (.acons (.rcons (.lit 1) .rnil) (.acons (.rcons (.bin .mul .i64 (.var 1) (.var 2)) .rnil) .anil)))) 1)), true), (.cmp .eql (.app 111 (.acons (.rvar 0) (.acons (.rcons (.lit 1) .rnil) (.acons (.rcons (.bin .mul .i64 (.var 1) (.var 2)) .rnil) .anil)))) (.lit 1), true)], .ret (.tuple [.nilslice, .int .i64 0, .sint .i64 (.app 108 (.acons (.rvar 0) (.acons (.rcons (.lit 1) .rnil) (.acons (.rcons (.bin .mul .i64 (.var 1) (.var 2)) .rnil) .anil))))]) ⟨0, .nil⟩), ([(.cmp .lss (.app 107 (.acons (.rvar 0) (.acons (.rcons (.lit 1) .rnil) (.acons (.rcons (.bin .mul .i64 (.var 1) (.var 2)) .rnil) .anil)))) (.rlen (.rvar 0) 1), true), (.cmp .eql (.app 108 (.acons (.rvar 0) (.acons (.rcons (.lit 1) .rnil) (.acons (.rcons (.bin .mul .i64 (.var 1) (.var 2)) .rnil) .anil)))) (.lit 0), true), (.cmp .lss (.lit 0) (.rlen (.rapp 106 (.acons (.rvar 0) (.acons (.rcons (.lit 1) .rnil) (.acons (.rcons (.bin .mul .i64 (.var 1) (.var 2)) .rnil) .anil)))) 1), false), (.cmp .lss (.lit 2) (.sel (.rvar 0) (.lit 0) 1 0), false), (.cmp .lss (.lit 0) (.rlen (.rvar 0) 1), true), (.cmp .eql (.rlen (.rvar 0) 1) (.lit 0), false), (.cmp .lss (.var 2) (.lit 17), true), (.cmp .lss (.lit 0) (.var 2), true), (.cmp .lss (.var 1) (.lit 17), true), (.cmp .lss (.lit 0) (.var 1), true), (.not (.cmp .lss (.lit 16384) (.rlen (.rvar 0) 1)), true), (.not (.cmp .lss (.lit 1048576) (.rlen (.rapp 106 (.acons (.rvar 0) (.acons (.rcons (.lit 1) .rnil) (.acons (.rcons (.bin .mul .i64 (.var 1) (.var 2)) .rnil) .anil)))) 1)), true), (.cmp .eql (.app 111 (.acons (.rvar 0) (.acons (.rcons (.lit 1) .rnil) (.acons (.rcons (.bin .mul .i64 (.var 1) (.var 2)) .rnil) .anil)))) (.lit 1), true)], .ret (.tuple [.nilslice, .int .i64 0, .int .i64 13]) ⟨0, .nil⟩), ([(.cmp .eql (.app 123 (.acons (.rcons (.wrap .i64 (.sel (.rvar 0) (.lit 0) 1 0)) .rnil) (.acons .rnil (.acons (.rcons (.var 1) .rnil) .anil)))) (.lit 0), true), (.cmp .lss (.lit 0) (.rlen (.rapp 122 (.acons (.rcons (.wrap .i64 (.sel (.rvar 0) (.lit 0) 1 0)) .rnil) (.acons .rnil (.acons (.rcons (.var 1) .rnil) .anil)))) 1), true), (.cmp .lss (.app 107 (.acons (.rvar 0) (.acons (.rcons (.lit 1) .rnil) (.acons (.rcons (.bin .mul .i64 (.var 1) (.var 2)) .rnil) .anil)))) (.rlen (.rvar 0) 1), false), (.cmp .eql (.app 108 (.acons (.rvar 0) (.acons (.rcons (.lit 1) .rnil) (.acons (.rcons (.bin .mul .i64 (.var 1) (.var 2)) .rnil) .anil)))) (.lit 0), true), (.cmp .lss (.lit 0) (.rlen (.rapp 106 (.acons (.rvar 0) (.acons (.rcons (.lit 1) .rnil) (.acons (.rcons (.bin .mul .i64 (.var 1) (.var 2)) .rnil) .anil)))) 1), false), (.cmp .lss (.lit 2) (.sel (.rvar 0) (.lit 0) 1 0), false), (.cmp .lss (.lit 0) (.rlen (.rvar 0) 1), true), (.cmp .eql (.rlen (.rvar 0) 1) (.lit 0), false), (.cmp .lss (.var 2) (.lit 17), true), (.cmp .lss (.lit 0) (.var 2), true), (.cmp .lss (.var 1) (.lit 17), true), (.cmp .lss (.lit 0) (.var 1), true), (.not (.cmp .lss (.lit 16384) (.rlen (.rvar 0) 1)), true), (.not (.cmp .lss (.lit 1048576) (.rlen (.rapp 106 (.acons (.rvar 0) (.acons (.rcons (.lit 1) .rnil) (.acons (.rcons (.bin .mul .i64 (.var 1) (.var 2)) .rnil) .anil)))) 1)), true), (.cmp .eql (.app 111 (.acons (.rvar 0) (.acons (.rcons (.lit 1) .rnil) (.acons (.rcons (.bin .mul .i64 (.var 1) (.var 2)) .rnil) .anil)))) (.lit 1), true)], .ret (.tuple [.rsl (.own 0) (.lit 0) (.rlen (.rapp 122 (.acons (.rcons (.wrap .i64 (.sel (.rvar 0) (.lit 0) 1 0)) .rnil) (.acons .rnil (.acons (.rcons (.var 1) .rnil) .anil)))) 1) 1, .sint .i64 (.wrap .i64 (.sel (.rvar 0) (.lit 0) 1 0)), .int .i64 0]) ⟨1, (.node (some ⟨2, 0, [], .nil, true, (some (.rapp 122 (.acons (.rcons (.wrap .i64 (.sel (.rvar 0) (.lit 0) 1 0)) .rnil) (.acons .rnil (.acons (.rcons (.var 1) .rnil) .anil))), (.rlen (.rapp 122 (.acons (.rcons (.wrap .i64 (.sel (.rvar 0) (.lit 0) 1 0)) .rnil) (.acons .rnil (.acons (.rcons (.var 1) .rnil) .anil)))) 1, [.i64])))⟩) .nil .nil)⟩), ([(.cmp .eql (.app 123 (.acons (.rcons (.wrap .i64 (.sel (.rvar 0) (.lit 0) 1 0)) .rnil) (.acons .rnil (.acons (.rcons (.var 1) .rnil) .anil)))) (.lit 0), false), (.cmp .lss (.lit 0) (.rlen (.rapp 122 (.acons (.rcons (.wrap .i64 (.sel (.rvar 0) (.lit 0) 1 0)) .rnil) (.acons .rnil (.acons (.rcons (.var 1) .rnil) .anil)))) 1), true), (.cmp .lss (.app 107 (.acons (.rvar 0) (.acons (.rcons (.lit 1) .rnil) (.acons (.rcons (.bin .mul .i64 (.var 1) (.var 2)) .rnil) .anil)))) (.rlen (.rvar 0) 1), false), (.cmp .eql (.app 108 (.acons (.rvar 0) (.acons (.rcons (.lit 1) .rnil) (.acons (.rcons (.bin .mul .i64 (.var 1) (.var 2)) .rnil) .anil)))) (.lit 0), true), (.cmp .lss (.lit 0) (.rlen (.rapp 106 (.acons (.rvar 0) (.acons (.rcons (.lit 1) .rnil) (.acons (.rcons (.bin .mul .i64 (.var 1) (.var 2)) .rnil) .anil)))) 1), false), (.cmp .lss (.lit 2) (.sel (.rvar 0) (.lit 0) 1 0), false), (.cmp .lss (.lit 0) (.rlen (.rvar 0) 1), true), (.cmp .eql (.rlen (.rvar 0) 1) (.lit 0), false), (.cmp .lss (.var 2) (.lit 17), true), (.cmp .lss (.lit 0) (.var 2), true), (.cmp .lss (.var 1) (.lit 17), true), (.cmp .lss (.lit 0) (.var 1), true), (.not (.cmp .lss (.lit 16384) (.rlen (.rvar 0) 1)), true), (.not (.cmp .lss (.lit 1048576) (.rlen (.rapp 106 (.acons (.rvar 0) (.acons (.rcons (.lit 1) .rnil) (.acons (.rcons (.bin .mul .i64 (.var 1) (.var 2)) .rnil) .anil)))) 1)), true), (.cmp .eql (.app 111 (.acons (.rvar 0) (.acons (.rcons (.lit 1) .rnil) (.acons (.rcons (.bin .mul .i64 (.var 1) (.var 2)) .rnil) .anil)))) (.lit 1), true)], .ret (.tuple [.nilslice, .int .i64 0, .sint .i64 (.app 123 (.acons (.rcons (.wrap .i64 (.sel (.rvar 0) (.lit 0) 1 0)) .rnil) (.acons .rnil (.acons (.rcons (.var 1) .rnil) .anil))))]) ⟨0, .nil⟩), ([(.cmp .eql (.app 123 (.acons (.rcons (.wrap .i64 (.sel (.rvar 0) (.lit 0) 1 0)) .rnil) (.acons .rnil (.acons (.rcons (.var 1) .rnil) .anil)))) (.lit 0), true), (.cmp .lss (.lit 0) (.rlen (.rapp 122 (.acons (.rcons (.wrap .i64 (.sel (.rvar 0) (.lit 0) 1 0)) .rnil) (.acons .rnil (.acons (.rcons (.var 1) .rnil) .anil)))) 1), false), (.cmp .lss (.app 107 (.acons (.rvar 0) (.acons (.rcons (.lit 1) .rnil) (.acons (.rcons (.bin .mul .i64 (.var 1) (.var 2)) .rnil) .anil)))) (.rlen (.rvar 0) 1), false), (.cmp .eql (.app 108 (.acons (.rvar 0) (.acons (.rcons (.lit 1) .rnil) (.acons (.rcons (.bin .mul .i64 (.var 1) (.var 2)) .rnil) .anil)))) (.lit 0), true), (.cmp .lss (.lit 0) (.rlen (.rapp 106 (.acons (.rvar 0) (.acons (.rcons (.lit 1) .rnil) (.acons (.rcons (.bin .mul .i64 (.var 1) (.var 2)) .rnil) .anil)))) 1), false), (.cmp .lss (.lit 2) (.sel (.rvar 0) (.lit 0) 1 0), false), (.cmp .lss (.lit 0) (.rlen (.rvar 0) 1), true), (.cmp .eql (.rlen (.rvar 0) 1) (.lit 0), false), (.cmp .lss (.var 2) (.lit 17), true), (.cmp .lss (.lit 0) (.var 2), true), (.cmp .lss (.var 1) (.lit 17), true), (.cmp .lss (.lit 0) (.var 1), true), (.not (.cmp .lss (.lit 16384) (.rlen (.rvar 0) 1)), true), (.not (.cmp .lss (.lit 1048576) (.rlen (.rapp 106 (.acons (.rvar 0) (.acons (.rcons (.lit 1) .rnil) (.acons (.rcons (.bin .mul .i64 (.var 1) (.var 2)) .rnil) .anil)))) 1)), true), (.cmp .eql (.app 111 (.acons (.rvar 0) (.acons (.rcons (.lit 1) .rnil) (.acons (.rcons (.bin .mul .i64 (.var 1) (.var 2)) .rnil) .anil)))) (.lit 1), true)], .ret (.tuple [.e0, .sint .i64 (.wrap .i64 (.sel (.rvar 0) (.lit 0) 1 0)), .int .i64 0]) ⟨0, .nil⟩), ([(.cmp .eql (.app 123 (.acons (.rcons (.wrap .i64 (.sel (.rvar 0) (.lit 0) 1 0)) .rnil) (.acons .rnil (.acons (.rcons (.var 1) .rnil) .anil)))) (.lit 0), false), (.cmp .lss (.lit 0) (.rlen (.rapp 122 (.acons (.rcons (.wrap .i64 (.sel (.rvar 0) (.lit 0) 1 0)) .rnil) (.acons .rnil (.acons (.rcons (.var 1) .rnil) .anil)))) 1), false), (.cmp .lss (.app 107 (.acons (.rvar 0) (.acons (.rcons (.lit 1) .rnil) (.acons (.rcons (.bin .mul .i64 (.var 1) (.var 2)) .rnil) .anil)))) (.rlen (.rvar 0) 1), false), (.cmp .eql (.app 108 (.acons (.rvar 0) (.acons (.rcons (.lit 1) .rnil) (.acons (.rcons (.bin .mul .i64 (.var 1) (.var 2)) .rnil) .anil)))) (.lit 0), true), (.cmp .lss (.lit 0) (.rlen (.rapp 106 (.acons (.rvar 0) (.acons (.rcons (.lit 1) .rnil) (.acons (.rcons (.bin .mul .i64 (.var 1) (.var 2)) .rnil) .anil)))) 1), false), (.cmp .lss (.lit 2) (.sel (.rvar 0) (.lit 0) 1 0), false), (.cmp .lss (.lit 0) (.rlen (.rvar 0) 1), true), (.cmp .eql (.rlen (.rvar 0) 1) (.lit 0), false), (.cmp .lss (.var 2) (.lit 17), true), (.cmp .lss (.lit 0) (.var 2), true), (.cmp .lss (.var 1) (.lit 17), true), (.cmp .lss (.lit 0) (.var 1), true), (.not (.cmp .lss (.lit 16384) (.rlen (.rvar 0) 1)), true), (.not (.cmp .lss (.lit 1048576) (.rlen (.rapp 106 (.acons (.rvar 0) (.acons (.rcons (.lit 1) .rnil) (.acons (.rcons (.bin .mul .i64 (.var 1) (.var 2)) .rnil) .anil)))) 1)), true), (.cmp .eql (.app 111 (.acons (.rvar 0) (.acons (.rcons (.lit 1) .rnil) (.acons (.rcons (.bin .mul .i64 (.var 1) (.var 2)) .rnil) .anil)))) (.lit 1), true)], .ret (.tuple [.nilslice, .int .i64 0, .sint .i64 (.app 123 (.acons (.rcons (.wrap .i64 (.sel (.rvar 0) (.lit 0) 1 0)) .rnil) (.acons .rnil (.acons (.rcons (.var 1) .rnil) .anil))))]) ⟨0, .nil⟩), ([(.cmp .eql (.app 108 (.acons (.rvar 0) (.acons (.rcons (.lit 1) .rnil) (.acons (.rcons (.bin .mul .i64 (.var 1) (.var 2)) .rnil) .anil)))) (.lit 0), false), (.cmp .lss (.lit 0) (.rlen (.rapp 106 (.acons (.rvar 0) (.acons (.rcons (.lit 1) .rnil) (.acons (.rcons (.bin .mul .i64 (.var 1) (.var 2)) .rnil) .anil)))) 1), false), (.cmp .lss (.lit 2) (.sel (.rvar 0) (.lit 0) 1 0), false), (.cmp .lss (.lit 0) (.rlen (.rvar 0) 1), true), (.cmp .eql (.rlen (.rvar 0) 1) (.lit 0), false), (.cmp .lss (.var 2) (.lit 17), true), (.cmp .lss (.lit 0) (.var 2), true), (.cmp .lss (.var 1) (.lit 17), true), (.cmp .lss (.lit 0) (.var 1), true), (.not (.cmp .lss (.lit 16384) (.rlen (.rvar 0) 1)), true), (.not (.cmp .lss (.lit 1048576) (.rlen (.rapp 106 (.acons (.rvar 0) (.acons (.rcons (.lit 1) .rnil) (.acons (.rcons (.bin .mul .i64 (.var 1) (.var 2)) .rnil) .anil)))) 1)), true), (.cmp .eql (.app 111 (.acons (.rvar 0) (.acons (.rcons (.lit 1) .rnil) (.acons (.rcons (.bin .mul .i64 (.var 1) (.var 2)) .rnil) .anil)))) (.lit 1), true)], .ret (.tuple [.nilslice, .int .i64 0, .sint .i64 (.app 108 (.acons (.rvar 0) (.acons (.rcons (.lit 1) .rnil) (.acons (.rcons (.bin .mul .i64 (.var 1) (.var 2)) .rnil) .anil))))]) ⟨0, .nil⟩), ([(.cmp .lss (.lit 0) (.rlen (.rvar 0) 1), false), (.cmp .eql (.rlen (.rvar 0) 1) (.lit 0), false), (.cmp .lss (.var 2) (.lit 17), true), (.cmp .lss (.lit 0) (.var 2), true), (.cmp .lss (.var 1) (.lit 17), true), (.cmp .lss (.lit 0) (.var 1), true), (.not (.cmp .lss (.lit 16384) (.rlen (.rvar 0) 1)), true), (.not (.cmp .lss (.lit 1048576) (.rlen (.rapp 106 (.acons (.rvar 0) (.acons (.rcons (.lit 1) .rnil) (.acons (.rcons (.bin .mul .i64 (.var 1) (.var 2)) .rnil) .anil)))) 1)), true), (.cmp .eql (.app 111 (.acons (.rvar 0) (.acons (.rcons (.lit 1) .rnil) (.acons (.rcons (.bin .mul .i64 (.var 1) (.var 2)) .rnil) .anil)))) (.lit 1), true)], .bad), ([(.cmp .lss (.var 2) (.lit 17), false), (.cmp .lss (.lit 0) (.var 2), true), (.cmp .lss (.var 1) (.lit 17), true), (.cmp .lss (.lit 0) (.var 1), true), (.not (.cmp .lss (.lit 16384) (.rlen (.rvar 0) 1)), true), (.not (.cmp .lss (.lit 1048576) (.rlen (.rapp 106 (.acons (.rvar 0) (.acons (.rcons (.lit 1) .rnil) (.acons (.rcons (.bin .mul .i64 (.var 1) (.var 2)) .rnil) .anil)))) 1)), true), (.cmp .eql (.app 111 (.acons (.rvar 0) (.acons (.rcons (.lit 1) .rnil) (.acons (.rcons (.bin .mul .i64 (.var 1) (.var 2)) .rnil) .anil)))) (.lit 1), true)], .ret (.tuple [.nilslice, .int .i64 0, .int .i64 3]) ⟨0, .nil⟩), ([(.cmp .lss (.lit 0) (.var 2), false), (.cmp .lss (.var 1) (.lit 17), true), (.cmp .lss (.lit 0) (.var 1), true), (.not (.cmp .lss (.lit 16384) (.rlen (.rvar 0) 1)), true), (.not (.cmp .lss (.lit 1048576) (.rlen (.rapp 106 (.acons (.rvar 0) (.acons (.rcons (.lit 1) .rnil) (.acons (.rcons (.bin .mul .i64 (.var 1) (.var 2)) .rnil) .anil)))) 1)), true), (.cmp .eql (.app 111 (.acons (.rvar 0) (.acons (.rcons (.lit 1) .rnil) (.acons (.rcons (.bin .mul .i64 (.var 1) (.var 2)) .rnil) .anil)))) (.lit 1), true)], .ret (.tuple [.nilslice, .int .i64 0, .int .i64 3]) ⟨0, .nil⟩), ([(.cmp .lss (.var 1) (.lit 17), false), (.cmp .lss (.lit 0) (.var 1), true), (.not (.cmp .lss (.lit 16384) (.rlen (.rvar 0) 1)), true), (.not (.cmp .lss (.lit 1048576) (.rlen (.rapp 106 (.acons (.rvar 0) (.acons (.rcons (.lit 1) .rnil) (.acons (.rcons (.bin .mul .i64 (.var 1) (.var 2)) .rnil) .anil)))) 1)), true), (.cmp .eql (.app 111 (.acons (.rvar 0) (.acons (.rcons (.lit 1) .rnil) (.acons (.rcons (.bin .mul .i64 (.var 1) (.var 2)) .rnil) .anil)))) (.lit 1), true)], .ret (.tuple [.nilslice, .int .i64 0, .int .i64 3]) ⟨0, .nil⟩), ([(.cmp .lss (.lit 0) (.var 1), false), (.not (.cmp .lss (.lit 16384) (.rlen (.rvar 0) 1)), true), (.not (.cmp .lss (.lit 1048576) (.rlen (.rapp 106 (.acons (.rvar 0) (.acons (.rcons (.lit 1) .rnil) (.acons (.rcons (.bin .mul .i64 (.var 1) (.var 2)) .rnil) .anil)))) 1)), true), (.cmp .eql (.app 111 (.acons (.rvar 0) (.acons (.rcons (.lit 1) .rnil) (.acons (.rcons (.bin .mul .i64 (.var 1) (.var 2)) .rnil) .anil)))) (.lit 1), true)], .ret (.tuple [.nilslice, .int .i64 0, .int .i64 3]) ⟨0, .nil⟩)] := by kernel_rfl

end Go.Proofs.Ytkfejcffacbngaa.J


namespace Go.Proofs.Ytkfejcffacbngaa.J

open Go Go.Sym

set_option linter.unusedVariables false

/-- the cells of a tile's bytes -/
def tgetM (b : List Int) (w h : Int) : List Int × Int × Int :=
  if ¬ rightT w h then ([], 0, 3) else if b = [] then ([], 0, 14) else if ¬ cl b 0 ≤ 2 then ([], 0, 13) else
  if (getM b 1 (w * h)).2.2 ≠ 0 then ([], 0, (getM b 1 (w * h)).2.2) else if (getM b 1 (w * h)).2.1 ≠ b.length then ([], 0, 13) else
  if (cellsM (cl b 0) (getM b 1 (w * h)).1 w).2 ≠ 0 then ([], 0, (cellsM (cl b 0) (getM b 1 (w * h)).1 w).2) else ((cellsM (cl b 0) (getM b 1 (w * h)).1 w).1, cl b 0, 0)

def g130 : List (List Int) → List Int
  | [b, [w], [h]] => (tgetM b w h).1
  | _ => []
def g131 : List (List Int) → List Int
  | [b, [w], [h]] => [(tgetM b w h).2.1]
  | _ => []
def g132 : List (List Int) → List Int
  | [b, [w], [h]] => [(tgetM b w h).2.2]
  | _ => []

open Classical in
noncomputable def g133 : List (List Int) → List Int
  | [b, _, _] => [if bytes8 b then 1 else 0]
  | _ => []

noncomputable def FNtb : Nat → List (List Int) → List Int
  | 130, l => g130 l
  | 131, l => g131 l
  | 132, l => g132 l
  | 133, l => g133 l
  | i, l => FNta i l

theorem FNtb_106 (b : List Int) (a n : Int) : FNtb 106 [b, [a], [n]] = (getM b a n).1 := rfl
theorem FNtb_107 (b : List Int) (a n : Int) : FNtb 107 [b, [a], [n]] = [(getM b a n).2.1] := rfl
theorem FNtb_108 (b : List Int) (a n : Int) : FNtb 108 [b, [a], [n]] = [(getM b a n).2.2] := rfl
theorem FNtb_111 {b : List Int} (hB : bytes8 b) (a n : Int) : FNtb 111 [b, [a], [n]] = [1] := FNw_111' (l := [a]) (m := [n]) hB
theorem FNtb_122 (k : Int) (l : List Int) (w : Int) : FNtb 122 [[k], l, [w]] = (cellsM k l w).1 := rfl
theorem FNtb_123 (k : Int) (l : List Int) (w : Int) : FNtb 123 [[k], l, [w]] = [(cellsM k l w).2] := rfl
theorem FNtb_130 (b : List Int) (w h : Int) : FNtb 130 [b, [w], [h]] = (tgetM b w h).1 := rfl
theorem FNtb_131 (b : List Int) (w h : Int) : FNtb 131 [b, [w], [h]] = [(tgetM b w h).2.1] := rfl
theorem FNtb_132 (b : List Int) (w h : Int) : FNtb 132 [b, [w], [h]] = [(tgetM b w h).2.2] := rfl

theorem FNtb_133 {b : List Int} (hB : bytes8 b) (w h : List Int) : FNtb 133 [b, w, h] = [1] := by show [_] = _; rw [if_pos hB]
theorem bytes8_of3 {b : List Int} {w x : List Int} (h : (FNtb 133 [b, w, x]).headD 0 = 1) : bytes8 b := by
  by_cases hb : bytes8 b
  · exact hb
  · exfalso
    have : FNtb 133 [b, w, x] = [0] := by show [_] = _; rw [if_neg hb]
    rw [this] at h; simp at h

theorem ta_tb {c : Pc} (h : PcOk Try.prog FNta c) (h1 : ∀ i, i < c.rks.length → c.id + i < 130 ∨ 133 < c.id + i) (h2 : ∀ i, i ∈ c.pre → i < 130 ∨ 133 < i) : PcOk Try.prog FNtb c := by
  have e : ∀ j, j < 130 ∨ 133 < j → FNtb j = FNta j := fun j hj => by
    funext l
    unfold FNtb
    split <;> first | omega | rfl
  exact h.cong (fun i hi => e _ (h1 i hi)) (fun i hi => e _ (h2 i hi))

theorem w_tb {c : Pc} (h : PcOk Try.prog FNw c) (h1 : ∀ i, i < c.rks.length → c.id + i < 115) (h2 : ∀ i, i ∈ c.pre → i < 115) : PcOk Try.prog FNtb c :=
  ta_tb (z_ta (y_z (x_y (w_x h (fun i hi => by have := h1 i hi; omega) (fun i hi => by have := h2 i hi; omega)) (fun i hi => by have := h1 i hi; omega) (fun i hi => by have := h2 i hi; omega)) (fun i hi => by have := h1 i hi; omega) (fun i hi => by have := h2 i hi; omega)) (fun i hi => by have := h1 i hi; omega) (fun i hi => by have := h2 i hi; omega)) (fun i hi => by have := h1 i hi; omega) (fun i hi => by have := h2 i hi; omega)

theorem rget_tb : PcOk Try.prog FNtb pcRGet := w_tb (u_w (t_u rget_ok (by decide) rfl) (by decide) rfl) (by decide) (by decide)
theorem rgetR_tb : PcOk Try.prog FNtb pcRGetR := w_tb rgetR_ok (by decide) (by decide)
theorem cellsP_tb : PcOk Try.prog FNtb pcCellsP := ta_tb (z_ta cellsP_ok (by decide) (by decide)) (by decide) (by decide)
theorem cellsD_tb : PcOk Try.prog FNtb pcCellsD := ta_tb (z_ta cellsD_ok (by decide) (by decide)) (by decide) (by decide)

def pcTG : Pc := ⟨31, akTG, [.sl 2 [.i64], .int .i64, .int .i64], 130, [(0, 0, 16384)], [133]⟩
def pcTGD : Pc := ⟨32, akTG, [.sl 2 [.i64], .int .i64, .int .i64], 130, [(0, 0, 16384)], [133]⟩

theorem cellsM_len {k : Int} {r : List Int} {w : Int} (h : (cellsM k r w).2 = 0) : (cellsM k r w).1.length = r.length := by
  unfold cellsM at h ⊢
  split
  · rename_i hr; rw [if_pos hr] at h; exact absurd h (by decide)
  · rename_i hr
    rw [if_neg hr] at h
    exact (cellsF_len (k := k) (r := r) (w := w) r.length _ (by rw [← h])).1

theorem getM_le {b : List Int} (hB : bytes8 b) (a n : Int) : (getM b a n).1.length ≤ 1048576 := by
  by_cases h : (getM b a n).2.2 = 0
  · have := get_canon hB (show getM b a n = ((getM b a n).1, (getM b a n).2.1, 0) by rw [← h])
    omega
  · rw [getM_code h]; simp

theorem knGP_ok : ∀ env : Env, env.fn = FNtb → KnOk Try.prog env [pcRGet.ct, pcCellsP.ct] := fun env h => knOk_cons (knOk_cons knOk_nil (Pc.ct_ok h cellsP_tb)) (Pc.ct_ok h rget_tb)

set_option maxHeartbeats 4000000 in
theorem tgetP_ok : PcOk Try.prog FNtb pcTG := by
  intro w vs ls hargs hrng hpre
  refine pc_inst' mix pcTG knGP_ok (by decide) tget_entry hargs fun e0 hf ha => ?_
  simp only [pcTG, ArgsE, ArgE] at ha
  obtain ⟨b, _, rfl, ⟨hb, _⟩, _, _, rfl, rfl, _, _, rfl, rfl, rfl⟩ := ha
  have hlen := (hrng.1 (.sl [.u8]) b rfl rfl).2
  have hB : bytes8 b := bytes8_of3 hpre.1
  obtain ⟨W, hw⟩ : ∃ z, vInt (e0.val 1) = z := ⟨_, rfl⟩
  obtain ⟨H, hh⟩ : ∃ z, vInt (e0.val 2) = z := ⟨_, rfl⟩
  simp only [measL, List.length_singleton, Nat.div_one, Nat.zero_add, Nat.reduceAdd, hw, hh] at hlen hb ⊢
  refine ⟨?_, ?_⟩
  · have b1 := getM_le hB 1 (binI .mul .i64 W H)
    simp only [asTG, rTG, gTG, atmB, AsOk_cons, AsOk_nil, BE.eval, cmpI, IE.eval, IE.reval, IE.aeval, hf, hw, hh, hb, FNtb_106, FNtb_111 hB, List.headD_cons, Nat.div_one]
    simp; omega
  · have hk0 : 0 ≤ cl b 0 ∧ cl b 0 ≤ 255 := by
      cases b with
      | nil => exact ⟨by decide, by decide⟩
      | cons x l => have := hB x (List.mem_cons_self ..); rw [cl, selL0]; exact this
    have hwr : IntKind.i64.wrap (selL b 0 1 0) = cl b 0 := wrap_i64 (by simp only [cl] at hk0; omega)
    have hcs : selL b 0 1 0 = cl b 0 := rfl
    simp only [allLeaves, AsOk_cons, AsOk_nil, BE.eval, cmpI, IE.eval, IE.reval, IE.aeval, hf, hw, hh, hb, hwr, FNtb_106, FNtb_107, FNtb_108, FNtb_122, FNtb_123, FNtb_111 hB, List.headD_cons, Nat.div_one, and_true, decide_eq_true_eq, decide_eq_false_iff_not]
    have hP := mul_small (w := W) (h := H)
    have hnil : ∀ l : List Int, (l.length : Int) = 0 → l = [] := fun l h => List.eq_nil_of_length_eq_zero (by omega)
    have ret : ∀ (code : Int) (M : Mem), tgetM b W H = ([], 0, code) → StepG FNtb [b, [W], [H]] pcTG.id pcTG.rks (fun _ _ => False) (fun _ _ => (0, 0)) none e0 (.ret (.tuple [.nilslice, .int .i64 0, .int .i64 code]) M) := by
      intro code M h
      refine ⟨[_, _, _], rfl, ⟨by decide, _, rfl, ?_, trivial⟩, ⟨_, rfl, ?_⟩, ⟨_, rfl, ?_⟩, rfl⟩
      · simp only [IE.reval, pcTG, FNtb_130, h]
      · simp only [IE.eval, pcTG, Nat.reduceAdd, FNtb_131, h, List.headD_cons]
      · simp only [IE.eval, pcTG, Nat.reduceAdd, FNtb_132, h, List.headD_cons]
    have retS : ∀ (ie : IE) (M : Mem), tgetM b W H = ([], 0, ie.eval e0) → StepG FNtb [b, [W], [H]] pcTG.id pcTG.rks (fun _ _ => False) (fun _ _ => (0, 0)) none e0 (.ret (.tuple [.nilslice, .int .i64 0, .sint .i64 ie]) M) := by
      intro ie M h
      refine ⟨[_, _, _], rfl, ⟨by decide, _, rfl, ?_, trivial⟩, ⟨_, rfl, ?_⟩, ⟨_, rfl, ?_⟩, rfl⟩
      · simp only [IE.reval, pcTG, FNtb_130, h]
      · simp only [IE.eval, pcTG, Nat.reduceAdd, FNtb_131, h, List.headD_cons]
      · simp only [pcTG, Nat.reduceAdd, FNtb_132, h, List.headD_cons]
    have t3 : ¬ rightT W H → tgetM b W H = ([], 0, 3) := fun h => by rw [tgetM, if_pos h]
    by_cases hr : rightT W H
    case neg =>
      repeat' refine And.intro ?_ ?_
      all_goals intro hA
      all_goals first
        | exact ret 3 _ (t3 hr)
        | (exfalso; omega)
    have t14 : b = [] → tgetM b W H = ([], 0, 14) := fun h => by rw [tgetM, if_neg (fun x => x hr), if_pos h]
    by_cases hz : b = []
    case pos =>
      have hl0 : b.length = 0 := by rw [hz]; rfl
      repeat' refine And.intro ?_ ?_
      all_goals intro hA
      all_goals first
        | exact ret 14 _ (t14 hz)
        | (exfalso; omega)
    have hl1 : 0 < b.length := List.length_pos_iff.2 hz
    by_cases hk2 : cl b 0 ≤ 2
    case neg =>
      have t13 : tgetM b W H = ([], 0, 13) := by rw [tgetM, if_neg (fun x => x hr), if_neg hz, if_pos hk2]
      repeat' refine And.intro ?_ ?_
      all_goals intro hA
      all_goals first
        | (refine ret 13 _ t13; done)
        | (exfalso; omega)
    rw [(hP hr).1]
    have ev108 : IE.eval e0 (.app 108 gTG) = (getM b 1 (W * H)).2.2 := by
      simp only [IE.eval, IE.reval, IE.aeval, hf, hw, hh, hb, (hP hr).1, FNtb_108, List.headD_cons]
    by_cases hc : (getM b 1 (W * H)).2.2 = 0
    case neg =>
      have tC : tgetM b W H = ([], 0, (getM b 1 (W * H)).2.2) := by rw [tgetM, if_neg (fun x => x hr), if_neg hz, if_neg (fun x => x hk2), if_pos hc]
      repeat' refine And.intro ?_ ?_
      all_goals intro hA
      all_goals first
        | (refine retS (.app 108 gTG) _ ?_; rw [ev108]; exact tC)
        | (exfalso; omega)
    have hcan := get_canon hB (show getM b 1 (W * H) = ((getM b 1 (W * H)).1, (getM b 1 (W * H)).2.1, 0) by rw [← hc])
    have hsm := hP hr
    by_cases he : (getM b 1 (W * H)).2.1 = b.length
    case neg =>
      have t13 : tgetM b W H = ([], 0, 13) := by rw [tgetM, if_neg (fun x => x hr), if_neg hz, if_neg (fun x => x hk2), if_neg (fun x => x hc), if_pos he]
      repeat' refine And.intro ?_ ?_
      all_goals intro hA
      all_goals first
        | exact ret 13 _ t13
        | (exfalso; omega)
    have ev123 : IE.eval e0 (.app 123 (.acons (.rcons (.wrap .i64 (.sel (.rvar 0) (.lit 0) 1 0)) .rnil) (.acons rTG (.acons (.rcons (.var 1) .rnil) .anil)))) = (cellsM (cl b 0) (getM b 1 (W * H)).1 W).2 := by
      simp only [IE.eval, IE.reval, IE.aeval, hf, hw, hh, hb, hwr, (hP hr).1, FNtb_106, FNtb_123, List.headD_cons]
    by_cases hq : (cellsM (cl b 0) (getM b 1 (W * H)).1 W).2 = 0
    case neg =>
      have tF : tgetM b W H = ([], 0, (cellsM (cl b 0) (getM b 1 (W * H)).1 W).2) := by rw [tgetM, if_neg (fun x => x hr), if_neg hz, if_neg (fun x => x hk2), if_neg (fun x => x hc), if_neg (fun x => x he), if_pos hq]
      repeat' refine And.intro ?_ ?_
      all_goals intro hA
      all_goals first
        | (refine retS (.app 123 (.acons (.rcons (.wrap .i64 (.sel (.rvar 0) (.lit 0) 1 0)) .rnil) (.acons rTG (.acons (.rcons (.var 1) .rnil) .anil)))) _ ?_; rw [ev123]; exact tF)
        | (exfalso; omega)
    have hcl := cellsM_len hq
    have tO : tgetM b W H = ((cellsM (cl b 0) (getM b 1 (W * H)).1 W).1, cl b 0, 0) := by rw [tgetM, if_neg (fun x => x hr), if_neg hz, if_neg (fun x => x hk2), if_neg (fun x => x hc), if_neg (fun x => x he), if_neg (fun x => x hq)]
    repeat' refine And.intro ?_ ?_
    all_goals intro hA
    all_goals first
      | (exfalso; omega)
      | skip
    all_goals
      have hrow : FNtb 122 [[cl b 0], (getM b 1 (W * H)).1, [W]] = (tgetM b W H).1 := by rw [FNtb_122, tO]
      refine ⟨[_, _, _], rfl, ⟨by decide, _, rfl, ?_, ?_⟩, ⟨_, rfl, ?_⟩, ⟨_, rfl, ?_⟩, rfl⟩
      · rw [subE_eval (by simp only [IE.eval, Nat.div_one]; simp)]
        simp only [IE.reval, IE.eval, IE.aeval, hf, hw, hh, hb, hwr, (hP hr).1, pcTG, FNtb_106, FNtb_130, hrow, Nat.div_one]
        exact sub_all2 rfl
      · refine ⟨by simp only [IE.eval, IE.reval, Nat.div_one]; omega, fun B r cnt ks' h1 h2 => ?_⟩
        obtain rfl := Option.some.inj h1
        cases h2
        exact Int.le_refl _
      · simp only [IE.eval, IE.reval, hb, hwr, pcTG, Nat.reduceAdd, FNtb_131, tO, List.headD_cons]
      · simp only [IE.eval, pcTG, Nat.reduceAdd, FNtb_132, tO, List.headD_cons]

end Go.Proofs.Ytkfejcffacbngaa.J


namespace Go.Proofs.Ytkfejcffacbngaa.J

open Go Go.Sym

set_option linter.unusedVariables false

theorem knGD_ok : ∀ env : Env, env.fn = FNtb → KnOk Try.prog env [pcRGetR.ct, pcCellsD.ct] := fun env h => knOk_cons (knOk_cons knOk_nil (Pc.ct_ok h cellsD_tb)) (Pc.ct_ok h rgetR_tb)

set_option maxHeartbeats 4000000 in
theorem tgetD_ok : PcOk Try.prog FNtb pcTGD := by
  intro w vs ls hargs hrng hpre
  refine pc_inst' mix pcTGD knGD_ok (by decide) tgetD_entry hargs fun e0 hf ha => ?_
  simp only [pcTGD, ArgsE, ArgE] at ha
  obtain ⟨b, _, rfl, ⟨hb, _⟩, _, _, rfl, rfl, _, _, rfl, rfl, rfl⟩ := ha
  have hlen := (hrng.1 (.sl [.u8]) b rfl rfl).2
  have hB : bytes8 b := bytes8_of3 hpre.1
  obtain ⟨W, hw⟩ : ∃ z, vInt (e0.val 1) = z := ⟨_, rfl⟩
  obtain ⟨H, hh⟩ : ∃ z, vInt (e0.val 2) = z := ⟨_, rfl⟩
  simp only [measL, List.length_singleton, Nat.div_one, Nat.zero_add, Nat.reduceAdd, hw, hh] at hlen hb ⊢
  refine ⟨?_, ?_⟩
  · have b1 := getM_le hB 1 (binI .mul .i64 W H)
    simp only [asTG, rTG, gTG, atmB, AsOk_cons, AsOk_nil, BE.eval, cmpI, IE.eval, IE.reval, IE.aeval, hf, hw, hh, hb, FNtb_106, FNtb_111 hB, List.headD_cons, Nat.div_one]
    simp; omega
  · have hk0 : 0 ≤ cl b 0 ∧ cl b 0 ≤ 255 := by
      cases b with
      | nil => exact ⟨by decide, by decide⟩
      | cons x l => have := hB x (List.mem_cons_self ..); rw [cl, selL0]; exact this
    have hwr : IntKind.i64.wrap (selL b 0 1 0) = cl b 0 := wrap_i64 (by simp only [cl] at hk0; omega)
    have hcs : selL b 0 1 0 = cl b 0 := rfl
    simp only [allLeaves, AsOk_cons, AsOk_nil, BE.eval, cmpI, IE.eval, IE.reval, IE.aeval, hf, hw, hh, hb, hwr, FNtb_106, FNtb_107, FNtb_108, FNtb_122, FNtb_123, FNtb_111 hB, List.headD_cons, Nat.div_one, and_true, decide_eq_true_eq, decide_eq_false_iff_not]
    have hP := mul_small (w := W) (h := H)
    have hnil : ∀ l : List Int, (l.length : Int) = 0 → l = [] := fun l h => List.eq_nil_of_length_eq_zero (by omega)
    have ret : ∀ (code : Int) (M : Mem), tgetM b W H = ([], 0, code) → StepG FNtb [b, [W], [H]] pcTGD.id pcTGD.rks (fun _ _ => False) (fun _ _ => (0, 0)) none e0 (.ret (.tuple [.nilslice, .int .i64 0, .int .i64 code]) M) := by
      intro code M h
      refine ⟨[_, _, _], rfl, ⟨by decide, _, rfl, ?_, trivial⟩, ⟨_, rfl, ?_⟩, ⟨_, rfl, ?_⟩, rfl⟩
      · simp only [IE.reval, pcTGD, FNtb_130, h]
      · simp only [IE.eval, pcTGD, Nat.reduceAdd, FNtb_131, h, List.headD_cons]
      · simp only [IE.eval, pcTGD, Nat.reduceAdd, FNtb_132, h, List.headD_cons]
    have retS : ∀ (ie : IE) (M : Mem), tgetM b W H = ([], 0, ie.eval e0) → StepG FNtb [b, [W], [H]] pcTGD.id pcTGD.rks (fun _ _ => False) (fun _ _ => (0, 0)) none e0 (.ret (.tuple [.nilslice, .int .i64 0, .sint .i64 ie]) M) := by
      intro ie M h
      refine ⟨[_, _, _], rfl, ⟨by decide, _, rfl, ?_, trivial⟩, ⟨_, rfl, ?_⟩, ⟨_, rfl, ?_⟩, rfl⟩
      · simp only [IE.reval, pcTGD, FNtb_130, h]
      · simp only [IE.eval, pcTGD, Nat.reduceAdd, FNtb_131, h, List.headD_cons]
      · simp only [pcTGD, Nat.reduceAdd, FNtb_132, h, List.headD_cons]
    have t3 : ¬ rightT W H → tgetM b W H = ([], 0, 3) := fun h => by rw [tgetM, if_pos h]
    by_cases hr : rightT W H
    case neg =>
      repeat' refine And.intro ?_ ?_
      all_goals intro hA
      all_goals first
        | exact ret 3 _ (t3 hr)
        | (exfalso; omega)
    have t14 : b = [] → tgetM b W H = ([], 0, 14) := fun h => by rw [tgetM, if_neg (fun x => x hr), if_pos h]
    by_cases hz : b = []
    case pos =>
      have hl0 : b.length = 0 := by rw [hz]; rfl
      repeat' refine And.intro ?_ ?_
      all_goals intro hA
      all_goals first
        | exact ret 14 _ (t14 hz)
        | (exfalso; omega)
    have hl1 : 0 < b.length := List.length_pos_iff.2 hz
    by_cases hk2 : cl b 0 ≤ 2
    case neg =>
      have t13 : tgetM b W H = ([], 0, 13) := by rw [tgetM, if_neg (fun x => x hr), if_neg hz, if_pos hk2]
      repeat' refine And.intro ?_ ?_
      all_goals intro hA
      all_goals first
        | (refine ret 13 _ t13; done)
        | (exfalso; omega)
    rw [(hP hr).1]
    have ev108 : IE.eval e0 (.app 108 gTG) = (getM b 1 (W * H)).2.2 := by
      simp only [IE.eval, IE.reval, IE.aeval, hf, hw, hh, hb, (hP hr).1, FNtb_108, List.headD_cons]
    by_cases hc : (getM b 1 (W * H)).2.2 = 0
    case neg =>
      have tC : tgetM b W H = ([], 0, (getM b 1 (W * H)).2.2) := by rw [tgetM, if_neg (fun x => x hr), if_neg hz, if_neg (fun x => x hk2), if_pos hc]
      repeat' refine And.intro ?_ ?_
      all_goals intro hA
      all_goals first
        | (refine retS (.app 108 gTG) _ ?_; rw [ev108]; exact tC)
        | (exfalso; omega)
    have hcan := get_canon hB (show getM b 1 (W * H) = ((getM b 1 (W * H)).1, (getM b 1 (W * H)).2.1, 0) by rw [← hc])
    have hsm := hP hr
    by_cases he : (getM b 1 (W * H)).2.1 = b.length
    case neg =>
      have t13 : tgetM b W H = ([], 0, 13) := by rw [tgetM, if_neg (fun x => x hr), if_neg hz, if_neg (fun x => x hk2), if_neg (fun x => x hc), if_pos he]
      repeat' refine And.intro ?_ ?_
      all_goals intro hA
      all_goals first
        | exact ret 13 _ t13
        | (exfalso; omega)
    have ev123 : IE.eval e0 (.app 123 (.acons (.rcons (.wrap .i64 (.sel (.rvar 0) (.lit 0) 1 0)) .rnil) (.acons rTG (.acons (.rcons (.var 1) .rnil) .anil)))) = (cellsM (cl b 0) (getM b 1 (W * H)).1 W).2 := by
      simp only [IE.eval, IE.reval, IE.aeval, hf, hw, hh, hb, hwr, (hP hr).1, FNtb_106, FNtb_123, List.headD_cons]
    by_cases hq : (cellsM (cl b 0) (getM b 1 (W * H)).1 W).2 = 0
    case neg =>
      have tF : tgetM b W H = ([], 0, (cellsM (cl b 0) (getM b 1 (W * H)).1 W).2) := by rw [tgetM, if_neg (fun x => x hr), if_neg hz, if_neg (fun x => x hk2), if_neg (fun x => x hc), if_neg (fun x => x he), if_pos hq]
      repeat' refine And.intro ?_ ?_
      all_goals intro hA
      all_goals first
        | (refine retS (.app 123 (.acons (.rcons (.wrap .i64 (.sel (.rvar 0) (.lit 0) 1 0)) .rnil) (.acons rTG (.acons (.rcons (.var 1) .rnil) .anil)))) _ ?_; rw [ev123]; exact tF)
        | (exfalso; omega)
    have hcl := cellsM_len hq
    have tO : tgetM b W H = ((cellsM (cl b 0) (getM b 1 (W * H)).1 W).1, cl b 0, 0) := by rw [tgetM, if_neg (fun x => x hr), if_neg hz, if_neg (fun x => x hk2), if_neg (fun x => x hc), if_neg (fun x => x he), if_neg (fun x => x hq)]
    repeat' refine And.intro ?_ ?_
    all_goals intro hA
    all_goals first
      | (exfalso; omega)
      | skip
    all_goals
      have hrow : FNtb 122 [[cl b 0], (getM b 1 (W * H)).1, [W]] = (tgetM b W H).1 := by rw [FNtb_122, tO]
      refine ⟨[_, _, _], rfl, ⟨by decide, _, rfl, ?_, ?_⟩, ⟨_, rfl, ?_⟩, ⟨_, rfl, ?_⟩, rfl⟩
      · rw [subE_eval (by simp only [IE.eval, Nat.div_one]; simp)]
        simp only [IE.reval, IE.eval, IE.aeval, hf, hw, hh, hb, hwr, (hP hr).1, pcTGD, FNtb_106, FNtb_130, hrow, Nat.div_one]
        exact sub_all2 rfl
      · refine ⟨by simp only [IE.eval, IE.reval, Nat.div_one]; omega, fun B r cnt ks' h1 h2 => ?_⟩
        obtain rfl := Option.some.inj h1
        cases h2
        exact Int.le_refl _
      · simp only [IE.eval, IE.reval, hb, hwr, pcTGD, Nat.reduceAdd, FNtb_131, tO, List.headD_cons]
      · simp only [IE.eval, pcTGD, Nat.reduceAdd, FNtb_132, tO, List.headD_cons]

end Go.Proofs.Ytkfejcffacbngaa.J


namespace Go.Proofs.Ytkfejcffacbngaa.J

open Go Go.Sym

set_option linter.unusedVariables false

abbrev cutA : Cuts := [([0, 1, 0, 1, 1], ⟨25, [(0, .bool false), (1, sl0I), (2, .int .i64 0)], [blkZ], 1, []⟩),
  ([0, 1, 0, 1, 1], ⟨25, [(0, .bool false), (1, rowI), (2, .sint .i64 (.var 3))], [blkI], 1, [(nonneg (.var 3), true), (atmB (.var 3) (.lit 256), true), (nonneg (.var 5), true), (atmB (.var 5) (.lit 256), true), ltR (.lit 17592186044416) (.plus (.var 5) (.lit 1)) false]⟩)]

theorem taw_entry : entryK Try.prog [pcTP.ct] 50 600 26 cutA 0 [] 6 [] = some [([], .cut 0 ⟨[], [], [], [(0, 0)]⟩)] := by kernel_rfl

theorem taw_rounds : roundsK Try.prog [pcTP.ct] 50 600 26 cutA 0 6 cutA = some [[([], .cut 1 ⟨[(3, .lit 1), (5, .lit 1)], [(4, .rcons (.lit 5) .rnil)], [], [(0, 2)]⟩)], [([(.cmp .lss (.var 3) (.lit 256), true), (.not (.cmp .lss (.var 3) (.lit 0)), true), (.not (.cmp .lss (.lit 256) (.var 3)), true), (.not (.cmp .lss (.var 5) (.lit 0)), true), (.not (.cmp .lss (.lit 256) (.var 5)), true), (.cmp .lss (.lit 17592186044416) (.plus (.var 5) (.lit 1)), false)], .cut 1 ⟨[(3, .bin .add .i64 (.var 3) (.lit 1)), (5, .plus (.var 5) (.lit 1))], [(4, .cat (.rvar 4) (.rcons (.lit 5) .rnil))], [], [(0, 2)]⟩), ([(.cmp .eql (.app 121 (.acons (.rcons (.lit 1) .rnil) (.acons (.rvar 4) (.acons (.rcons (.lit 16) .rnil) (.acons (.rcons (.lit 16) .rnil) .anil))))) (.lit 0), true), (.cmp .lss (.lit 0) (.rlen (.rapp 120 (.acons (.rcons (.lit 1) .rnil) (.acons (.rvar 4) (.acons (.rcons (.lit 16) .rnil) (.acons (.rcons (.lit 16) .rnil) .anil))))) 1), true), (.cmp .lss (.var 3) (.lit 256), false), (.not (.cmp .lss (.var 3) (.lit 0)), true), (.not (.cmp .lss (.lit 256) (.var 3)), true), (.not (.cmp .lss (.var 5) (.lit 0)), true), (.not (.cmp .lss (.lit 256) (.var 5)), true), (.cmp .lss (.lit 17592186044416) (.plus (.var 5) (.lit 1)), false)], .ret (.sbool (.req (.w8 (.rapp 120 (.acons (.rcons (.lit 1) .rnil) (.acons (.rvar 4) (.acons (.rcons (.lit 16) .rnil) (.acons (.rcons (.lit 16) .rnil) .anil)))))) (.rcon [1, 10, 0, 254, 1]))) ⟨0, .nil⟩), ([(.cmp .eql (.app 121 (.acons (.rcons (.lit 1) .rnil) (.acons (.rvar 4) (.acons (.rcons (.lit 16) .rnil) (.acons (.rcons (.lit 16) .rnil) .anil))))) (.lit 0), false), (.cmp .lss (.lit 0) (.rlen (.rapp 120 (.acons (.rcons (.lit 1) .rnil) (.acons (.rvar 4) (.acons (.rcons (.lit 16) .rnil) (.acons (.rcons (.lit 16) .rnil) .anil))))) 1), true), (.cmp .lss (.var 3) (.lit 256), false), (.not (.cmp .lss (.var 3) (.lit 0)), true), (.not (.cmp .lss (.lit 256) (.var 3)), true), (.not (.cmp .lss (.var 5) (.lit 0)), true), (.not (.cmp .lss (.lit 256) (.var 5)), true), (.cmp .lss (.lit 17592186044416) (.plus (.var 5) (.lit 1)), false)], .ret (.bool false) ⟨0, .nil⟩), ([(.cmp .eql (.app 121 (.acons (.rcons (.lit 1) .rnil) (.acons (.rvar 4) (.acons (.rcons (.lit 16) .rnil) (.acons (.rcons (.lit 16) .rnil) .anil))))) (.lit 0), true), (.cmp .lss (.lit 0) (.rlen (.rapp 120 (.acons (.rcons (.lit 1) .rnil) (.acons (.rvar 4) (.acons (.rcons (.lit 16) .rnil) (.acons (.rcons (.lit 16) .rnil) .anil))))) 1), false), (.cmp .lss (.var 3) (.lit 256), false), (.not (.cmp .lss (.var 3) (.lit 0)), true), (.not (.cmp .lss (.lit 256) (.var 3)), true), (.not (.cmp .lss (.var 5) (.lit 0)), true), (.not (.cmp .lss (.lit 256) (.var 5)), true), (.cmp .lss (.lit 17592186044416) (.plus (.var 5) (.lit 1)), false)], .ret (.bool false) ⟨0, .nil⟩), ([(.cmp .eql (.app 121 (.acons (.rcons (.lit 1) .rnil) (.acons (.rvar 4) (.acons (.rcons (.lit 16) .rnil) (.acons (.rcons (.lit 16) .rnil) .anil))))) (.lit 0), false), (.cmp .lss (.lit 0) (.rlen (.rapp 120 (.acons (.rcons (.lit 1) .rnil) (.acons (.rvar 4) (.acons (.rcons (.lit 16) .rnil) (.acons (.rcons (.lit 16) .rnil) .anil))))) 1), false), (.cmp .lss (.var 3) (.lit 256), false), (.not (.cmp .lss (.var 3) (.lit 0)), true), (.not (.cmp .lss (.lit 256) (.var 3)), true), (.not (.cmp .lss (.var 5) (.lit 0)), true), (.not (.cmp .lss (.lit 256) (.var 5)), true), (.cmp .lss (.lit 17592186044416) (.plus (.var 5) (.lit 1)), false)], .ret (.bool false) ⟨0, .nil⟩)]] := by kernel_rfl

end Go.Proofs.Ytkfejcffacbngaa.J


namespace Go.Proofs.Ytkfejcffacbngaa.J

open Go Go.Sym

set_option linter.unusedVariables false

/-- how many bytes, without the predictor's own -/
def tlenM (k : Int) (l : List Int) (w : Int) : Int := ((lenS (runsL (restsM k l w).1) : Nat) : Int)
/-- the predictor with the fewest bytes -/
def tbestM (l : List Int) (w h : Int) : Int × Int :=
  if ¬ rightT w h then (0, 3) else if (l.length : Int) ≠ w * h then (0, 6) else if (restsM 0 l w).2 ≠ 0 then (0, (restsM 0 l w).2) else
  (if tlenM 1 l w < tlenM 0 l w then (if tlenM 2 l w < tlenM 1 l w then 2 else 1) else (if tlenM 2 l w < tlenM 0 l w then 2 else 0), 0)

def g134 : List (List Int) → List Int
  | _ => [1]
def g135 : List (List Int) → List Int
  | [l, [w], [h]] => [(tbestM l w h).1]
  | _ => []
def g136 : List (List Int) → List Int
  | [l, [w], [h]] => [(tbestM l w h).2]
  | _ => []

noncomputable def FNtc : Nat → List (List Int) → List Int
  | 134, l => g134 l
  | 135, l => g135 l
  | 136, l => g136 l
  | i, l => FNtb i l

theorem FNtc_120 (k : Int) (l : List Int) (w h : Int) : FNtc 120 [[k], l, [w], [h]] = (tputM k l w h).1 := rfl
theorem FNtc_121 (k : Int) (l : List Int) (w h : Int) : FNtc 121 [[k], l, [w], [h]] = [(tputM k l w h).2] := rfl
theorem FNtc_130 (b : List Int) (w h : Int) : FNtc 130 [b, [w], [h]] = (tgetM b w h).1 := rfl
theorem FNtc_131 (b : List Int) (w h : Int) : FNtc 131 [b, [w], [h]] = [(tgetM b w h).2.1] := rfl
theorem FNtc_132 (b : List Int) (w h : Int) : FNtc 132 [b, [w], [h]] = [(tgetM b w h).2.2] := rfl
theorem FNtc_133 {b : List Int} (hB : bytes8 b) (w h : List Int) : FNtc 133 [b, w, h] = [1] := FNtb_133 hB w h
theorem FNtc_134 : FNtc 134 [] = [1] := rfl
theorem tb_tc {c : Pc} (h : PcOk Try.prog FNtb c) (h1 : ∀ i, i < c.rks.length → c.id + i < 134 ∨ 136 < c.id + i) (h2 : ∀ i, i ∈ c.pre → i < 134 ∨ 136 < i) : PcOk Try.prog FNtc c := by
  have e : ∀ j, j < 134 ∨ 136 < j → FNtc j = FNtb j := fun j hj => by
    funext l
    unfold FNtc
    split <;> first | omega | rfl
  exact h.cong (fun i hi => e _ (h1 i hi)) (fun i hi => e _ (h2 i hi))
theorem w_tc {c : Pc} (h : PcOk Try.prog FNw c) (h1 : ∀ i, i < c.rks.length → c.id + i < 115) (h2 : ∀ i, i ∈ c.pre → i < 115) : PcOk Try.prog FNtc c :=
  tb_tc (w_tb h h1 h2) (fun i hi => by have := h1 i hi; omega) (fun i hi => by have := h2 i hi; omega)

theorem tput_tc : PcOk Try.prog FNtc pcTP := tb_tc (ta_tb tput_ok (by decide) (by decide)) (by decide) (by decide)
theorem tget_tc : PcOk Try.prog FNtc pcTG := tb_tc tgetP_ok (by decide) (by decide)
theorem tgetD_tc : PcOk Try.prog FNtc pcTGD := tb_tc tgetD_ok (by decide) (by decide)
def pcTA : Pc := ⟨26, [], [.bool], 134, [], []⟩

theorem taw_val : tputM 1 (List.replicate 256 5) 16 16 = ([1, 10, 0, 254, 1], 0) := by kernel_rfl

def invTA (ls : List (List Int)) (c : Nat) (env : Env) : Prop := c = 0 ∨ (c = 1 ∧ ∃ n : Nat, vInt (env.val 3) = n ∧ vInt (env.val 5) = n ∧ env.row 4 = List.replicate n 5 ∧ n ≤ 256)

theorem knTA_ok : ∀ env : Env, env.fn = FNtc → KnOk Try.prog env [pcTP.ct] := fun env h => knOk_cons knOk_nil (Pc.ct_ok h tput_tc)

theorem taw_ok : PcOk Try.prog FNtc pcTA := by
  refine pc_floyd_as (cs := cutA) (base := 0) (aa := []) mix pcTA knTA_ok (Nat.le_refl 0) taw_rounds taw_entry invTA (fun ls c env => (0, if c = 0 then 1000 else (500 - vInt (env.val 3)).toNat)) (fun ls i env h => by rcases h with h | ⟨h, _⟩ <;> simp [h]) ?_
  intro ls e0 hf hargs hrng hpre
  simp only [pcTA, ArgsE] at hargs
  subst hargs
  refine ⟨AsOk_nil.2 trivial, fun env hfn => ⟨⟨fun _ => AsOk_nil.2 trivial, ?_, trivial⟩, ⟨?_, ?_, trivial⟩⟩, ?_⟩
  · rintro (h | ⟨_, n, q3, q5, q4, hn⟩)
    · cases h
    · simp only [nonneg, atmB, ltR, AsOk_cons, AsOk_nil, BE.eval, cmpI, IE.eval, q3, q5]
      simp; omega
  · rintro (h | ⟨h, _⟩)
    · refine ⟨fun _ => stepG_cut (.inr ⟨rfl, 1, ?_, ?_, ?_, by omega⟩) (Prod.lex_def.2 (.inr ⟨rfl, ?_⟩)), trivial⟩
      · simp [upd, lk_cons, lk_nil, IE.eval, vInt_int]
      · simp [upd, lk_cons, lk_nil, IE.eval, vInt_int]
      · simp [upd, lk_cons, lk_nil, IE.reval, IE.eval]
      · simp [upd, lk_cons, lk_nil, IE.eval, vInt_int]
    · cases h
  · rintro (h | ⟨_, n, q3, q5, q4, hn⟩)
    · cases h
    · have e1 : binI .add .i64 (n : Int) 1 = ((n + 1 : Nat) : Int) := by simp only [binI]; rw [wrap_i64 (by omega)]; omega
      simp only [allLeaves, AsOk_cons, AsOk_nil, BE.eval, cmpI, IE.eval, IE.reval, IE.aeval, hfn, q3, q4, q5, FNtc_120, FNtc_121, List.headD_cons, Nat.div_one, and_true, decide_eq_true_eq, decide_eq_false_iff_not]
      refine ⟨fun hA => ?_, ?_⟩
      · refine stepG_cut (.inr ⟨rfl, n + 1, ?_, ?_, ?_, by omega⟩) (Prod.lex_def.2 (.inr ⟨rfl, ?_⟩))
        · simp [upd, lk_cons, lk_nil, IE.eval, q3, e1, vInt_int]
        · simp [upd, lk_cons, lk_nil, IE.eval, q5, vInt_int]
        · simp [upd, lk_cons, lk_nil, IE.reval, IE.eval, q4, List.replicate_succ']
        · simp only [upd, lk_cons, lk_nil, Nat.reduceEqDiff, if_false, if_true, IE.eval, q3, e1, vInt_int]; simp; omega
      · by_cases hn6 : n = 256
        · subst hn6
          rw [taw_val]
          refine ⟨fun _ => ⟨[_], rfl, ⟨?_, rfl⟩⟩, fun h => absurd rfl h.1, fun h => absurd h.2.1 (by decide), fun h => absurd rfl h.1⟩
          simp only [BE.eval, IE.eval, IE.reval, IE.aeval, hfn, q4, pcTA, FNtc_120, FNtc_134, taw_val, List.headD_cons]
          decide
        · refine ⟨fun h => ?_, fun h => ?_, fun h => ?_, fun h => ?_⟩ <;> (exfalso; omega)
  · exact ⟨fun _ => stepG_cut0 (.inl rfl), trivial⟩

end Go.Proofs.Ytkfejcffacbngaa.J


namespace Go.Proofs.Ytkfejcffacbngaa.J

open Go Go.Sym

set_option linter.unusedVariables false

end Go.Proofs.Ytkfejcffacbngaa.J


namespace Go.Proofs.Ytkfejcffacbngaa.J

open Go Go.Sym

set_option linter.unusedVariables false

theorem tput_of {k : Int} {l : List Int} {W H : Int} (h1 : rightT W H) (h2 : 0 ≤ k ∧ k ≤ 2) (h3 : (l.length : Int) = W * H) (h4 : (restsM k l W).2 = 0) : tputM k l W H = (k :: putS (runsL (restsM k l W).1), 0) := by
  rw [tputM, if_neg (not_not_intro h1), if_neg (not_not_intro h2), if_neg (not_not_intro h3), if_neg (not_not_intro h4)]

end Go.Proofs.Ytkfejcffacbngaa.J


namespace Go.Proofs.Ytkfejcffacbngaa.J

open Go Go.Sym

set_option linter.unusedVariables false

abbrev awT : BE × Bool := (.cmp .eql (.app 134 .anil) (.lit 0), false)
end Go.Proofs.Ytkfejcffacbngaa.J


namespace Go.Proofs.Ytkfejcffacbngaa.J

open Go Go.Sym

set_option linter.unusedVariables false

abbrev akTGets : List ArgK := [.sl [.u8], .int .i64, .int .i64]
abbrev knTGets : Kn := [pcTA.ct, pcTG.ct, pcTGD.ct, pcTP.ct, pcSame.ct]
abbrev gQ : IE := .acons (.rvar 0) (.acons (.rcons (.var 1) .rnil) (.acons (.rcons (.var 2) .rnil) .anil))
abbrev cQ : IE := .rapp 130 gQ
abbrev kQ : IE := .app 131 gQ
abbrev eQ : IE := .app 132 gQ
abbrev asQ0 : As := [awT, ltR (.lit 3000) l0 false, (.cmp .eql (.app 133 gQ) (.lit 1), true)]

theorem tgets_0 : entryK Try.prog knTGets 1 900 7 [] 3 (argSVs 0 akTGets) 4 [awT, ltR (.lit 3000) l0 true] = some [([(.cmp .eql (.app 134 .anil) (.lit 0), false), (.cmp .lss (.lit 3000) (.rlen (.rvar 0) 1), true)], .ret (.bool true) ⟨0, .nil⟩)] := by kernel_rfl

theorem tgets_1 : entryK Try.prog knTGets 1 900 7 [] 3 (argSVs 0 akTGets) 8 (asQ0 ++ [(.cmp .eql eQ (.lit 0), false), ltR (.lit 0) (.rlen cQ 1) false, sameE]) = some [([(.cmp .eql (.app 134 .anil) (.lit 0), false), (.cmp .lss (.lit 3000) (.rlen (.rvar 0) 1), false), (.cmp .eql (.app 133 (.acons (.rvar 0) (.acons (.rcons (.var 1) .rnil) (.acons (.rcons (.var 2) .rnil) .anil)))) (.lit 1), true), (.cmp .eql (.app 132 (.acons (.rvar 0) (.acons (.rcons (.var 1) .rnil) (.acons (.rcons (.var 2) .rnil) .anil)))) (.lit 0), false), (.cmp .lss (.lit 0) (.rlen (.rapp 130 (.acons (.rvar 0) (.acons (.rcons (.var 1) .rnil) (.acons (.rcons (.var 2) .rnil) .anil)))) 1), false), (.cmp .eql (.app 110 (.acons .rnil (.acons .rnil .anil))) (.lit 0), false)], .ret (.bool true) ⟨0, .nil⟩)] := by kernel_rfl

abbrev pQ : IE := .acons (.rcons kQ .rnil) (.acons cQ (.acons (.rcons (.var 1) .rnil) (.acons (.rcons (.var 2) .rnil) .anil)))
abbrev asTGets : As := asQ0 ++ [(.cmp .eql eQ (.lit 0), true), ltR (.lit 0) (.rlen cQ 1) true, ltR (.lit 4096) (.rlen cQ 1) false, ltR (.lit 1099511627776) (.rlen cQ 1) false, (.cmp .eql (.app 110 (.acons cQ (.acons cQ .anil))) (.lit 0), false), (.cmp .eql (.app 121 pQ) (.lit 0), true), ltR (.lit 0) (.rlen (.rapp 120 pQ) 1) true]

theorem tgets_2 : entryK Try.prog knTGets 1 900 7 [] 3 (argSVs 0 akTGets) 8 asTGets = some [([(.cmp .eql (.app 134 .anil) (.lit 0), false), (.cmp .lss (.lit 3000) (.rlen (.rvar 0) 1), false), (.cmp .eql (.app 133 (.acons (.rvar 0) (.acons (.rcons (.var 1) .rnil) (.acons (.rcons (.var 2) .rnil) .anil)))) (.lit 1), true), (.cmp .eql (.app 132 (.acons (.rvar 0) (.acons (.rcons (.var 1) .rnil) (.acons (.rcons (.var 2) .rnil) .anil)))) (.lit 0), true), (.cmp .lss (.lit 0) (.rlen (.rapp 130 (.acons (.rvar 0) (.acons (.rcons (.var 1) .rnil) (.acons (.rcons (.var 2) .rnil) .anil)))) 1), true), (.cmp .lss (.lit 4096) (.rlen (.rapp 130 (.acons (.rvar 0) (.acons (.rcons (.var 1) .rnil) (.acons (.rcons (.var 2) .rnil) .anil)))) 1), false), (.cmp .lss (.lit 1099511627776) (.rlen (.rapp 130 (.acons (.rvar 0) (.acons (.rcons (.var 1) .rnil) (.acons (.rcons (.var 2) .rnil) .anil)))) 1), false), (.cmp .eql (.app 110 (.acons (.rapp 130 (.acons (.rvar 0) (.acons (.rcons (.var 1) .rnil) (.acons (.rcons (.var 2) .rnil) .anil)))) (.acons (.rapp 130 (.acons (.rvar 0) (.acons (.rcons (.var 1) .rnil) (.acons (.rcons (.var 2) .rnil) .anil)))) .anil))) (.lit 0), false), (.cmp .eql (.app 121 (.acons (.rcons (.app 131 (.acons (.rvar 0) (.acons (.rcons (.var 1) .rnil) (.acons (.rcons (.var 2) .rnil) .anil)))) .rnil) (.acons (.rapp 130 (.acons (.rvar 0) (.acons (.rcons (.var 1) .rnil) (.acons (.rcons (.var 2) .rnil) .anil)))) (.acons (.rcons (.var 1) .rnil) (.acons (.rcons (.var 2) .rnil) .anil))))) (.lit 0), true), (.cmp .lss (.lit 0) (.rlen (.rapp 120 (.acons (.rcons (.app 131 (.acons (.rvar 0) (.acons (.rcons (.var 1) .rnil) (.acons (.rcons (.var 2) .rnil) .anil)))) .rnil) (.acons (.rapp 130 (.acons (.rvar 0) (.acons (.rcons (.var 1) .rnil) (.acons (.rcons (.var 2) .rnil) .anil)))) (.acons (.rcons (.var 1) .rnil) (.acons (.rcons (.var 2) .rnil) .anil))))) 1), true)], .ret (.sbool (.req (.w8 (.rapp 120 (.acons (.rcons (.app 131 (.acons (.rvar 0) (.acons (.rcons (.var 1) .rnil) (.acons (.rcons (.var 2) .rnil) .anil)))) .rnil) (.acons (.rapp 130 (.acons (.rvar 0) (.acons (.rcons (.var 1) .rnil) (.acons (.rcons (.var 2) .rnil) .anil)))) (.acons (.rcons (.var 1) .rnil) (.acons (.rcons (.var 2) .rnil) .anil)))))) (.w8 (.rvar 0)))) ⟨0, .nil⟩)] := by kernel_rfl

end Go.Proofs.Ytkfejcffacbngaa.J


namespace Go.Proofs.Ytkfejcffacbngaa.J

open Go Go.Sym

set_option linter.unusedVariables false

/-- WHAT IS GOT IS PUT. -/
theorem tile_put_get {b : List Int} {W H : Int} (hB : bytes8 b) (h : (tgetM b W H).2.2 = 0) : tputM (tgetM b W H).2.1 (tgetM b W H).1 W H = (b, 0) ∧ b ≠ [] ∧ (tgetM b W H).1.length ≤ 256 ∧ (tgetM b W H).1 ≠ [] := by
  unfold tgetM at h ⊢
  by_cases h1 : rightT W H
  case neg => rw [if_pos h1] at h; exact absurd h (by decide)
  rw [if_neg (not_not_intro h1)] at h ⊢
  by_cases h2 : b = []
  case pos => rw [if_pos h2] at h; exact absurd h (by decide)
  rw [if_neg h2] at h ⊢
  by_cases h3 : cl b 0 ≤ 2
  case neg => rw [if_pos h3] at h; exact absurd h (by decide)
  rw [if_neg (not_not_intro h3)] at h ⊢
  by_cases h4 : (getM b 1 (W * H)).2.2 = 0
  case neg => rw [if_pos h4] at h; exact absurd h h4
  rw [if_neg (not_not_intro h4)] at h ⊢
  by_cases h5 : (getM b 1 (W * H)).2.1 = b.length
  case neg => rw [if_pos h5] at h; exact absurd h (by decide)
  rw [if_neg (not_not_intro h5)] at h ⊢
  by_cases h6 : (cellsM (cl b 0) (getM b 1 (W * H)).1 W).2 = 0
  case neg => rw [if_pos h6] at h; exact absurd h h6
  rw [if_neg (not_not_intro h6)]
  simp only
  obtain ⟨k, hk⟩ : ∃ k, cl b 0 = k := ⟨_, rfl⟩
  obtain ⟨r, hr⟩ : ∃ r, (getM b 1 (W * H)).1 = r := ⟨_, rfl⟩
  rw [hk, hr] at h6 ⊢
  have hP := mul_small h1
  have hcan := get_canon hB (show getM b 1 (W * H) = ((getM b 1 (W * H)).1, (getM b 1 (W * H)).2.1, 0) by rw [← h4])
  rw [hr, h5] at hcan
  obtain ⟨_, c2, _, c4, _, c6⟩ := hcan
  have hcl := cellsM_len h6
  obtain ⟨c, hc⟩ : ∃ c, (cellsM k r W).1 = c := ⟨_, rfl⟩
  have hcM : cellsM k r W = (c, 0) := by rw [← hc, ← h6]
  rw [hc] at hcl ⊢
  have hR : rightG k W r.length := by
    unfold cellsM at h6
    by_cases x : rightG k W r.length
    · exact x
    · rw [if_pos x] at h6; exact absurd h6 (by decide)
  have hF : cellsF k r W r.length = (c, 0) := by rw [← hcM, cellsM, if_neg (not_not_intro hR)]
  obtain ⟨f1, f2⟩ := cellsF_len r.length c hF
  have hrc := rests_cells (k := k) (r := r) (w := W) hR.2.2.1 r.length c (Nat.le_refl _) hF
  rw [List.take_length] at hrc
  have hmay : ∀ x ∈ c, mayV x := fun x hx => by
    obtain ⟨j, hj, rfl⟩ := List.mem_iff_getElem.1 hx
    have := f2 j (by omega)
    rwa [cl_get hj] at this
  have hM : restsM k c W = (r, 0) := by
    rw [restsM, f1, if_neg (not_not_intro hR), if_neg (not_not_intro hmay), hrc]
  have hb1 : 1 ≤ b.length := List.length_pos_iff.2 h2
  refine ⟨?_, h2, by omega, fun h => by rw [h] at hcl; simp at hcl; omega⟩
  rw [tput_of h1 ⟨hR.1, hR.2.1⟩ (by omega) (by rw [hM]), hM]
  cases b with
  | nil => exact absurd rfl h2
  | cons x t =>
    rw [cl, selL0] at hk
    subst hk
    rw [c6]
    simp

theorem same_tc : PcOk Try.prog FNtc pcSame := w_tc (u_w same_ok (by decide) rfl) (by decide) (by decide)
theorem FNtc_110 (a b : List Int) : FNtc 110 [a, b] = [if a = b then 1 else 0] := rfl

theorem knTGets_ok : ∀ env : Env, env.fn = FNtc → KnOk Try.prog env knTGets := fun env h =>
  knOk_cons (knOk_cons (knOk_cons (knOk_cons (knOk_cons knOk_nil (Pc.ct_ok h same_tc)) (Pc.ct_ok h tput_tc)) (Pc.ct_ok h tgetD_tc)) (Pc.ct_ok h tget_tc)) (Pc.ct_ok h taw_ok)
end Go.Proofs.Ytkfejcffacbngaa.J


namespace Go.Proofs.Ytkfejcffacbngaa.J

open Go Go.Sym

set_option linter.unusedVariables false

theorem tgets_rows {ls : List (List Int)} {w : World} {vs : List Value} (h : ArgsAre w vs akTGets ls) : ∃ l a b, ls = [l, [a], [b]] := by
  obtain ⟨h1, h2, h3⟩ := argsAre_get h
  have hv : vs.length = 3 := by first | exact h1 | exact h2
  have hl : ls.length = 3 := by first | (rw [h2]; exact h1) | (rw [← h2]; exact h1) | exact h2
  match ls, hl with
  | [l, x, y], _ =>
    obtain ⟨a, _, hx⟩ := h3 1 _ _ _ (List.getElem?_eq_getElem (by omega)) rfl rfl
    obtain ⟨b, _, hy⟩ := h3 2 _ _ _ (List.getElem?_eq_getElem (by omega)) rfl rfl
    exact ⟨l, a, b, by rw [hx, hy]⟩

theorem tgets_inst {F : FuncId} {aks : List ArgK} {kn : Kn} (hk : aks.length = 3) (hkn : ∀ env : Env, env.fn = FNtc → KnOk Try.prog env kn) (hak : ∀ (e0 : Env) (l : List Int) (W H : Int), ArgsE e0 0 aks [l, [W], [H]] → e0.row 0 = l ∧ vInt (e0.val 1) = W ∧ vInt (e0.val 2) = H) {w : World} {vs : Array Value} {l : List Int} {W H : Int} (hargs : ArgsAre w vs.toList aks [l, [W], [H]]) {aa : As} {outs : List Leaf} {q : Nat} (hent : entryK Try.prog kn 1 900 F [] 3 (argSVs 0 aks) q aa = some outs)
    (hall : ∀ e0 : Env, e0.fn = FNtc → e0.row 0 = l → vInt (e0.val 1) = W → vInt (e0.val 2) = H →
      AsOk e0 aa ∧ allLeaves (fun lf => AsOk e0 lf.1 → StepL (fun _ _ => False) (fun _ _ => (0, 0)) none e0 lf.2) outs) : Calls Try.prog F vs w fun e w' => e = .returned (.bool true) ∧ RowKit.Below w.heap.size w w' := by
  refine law_floyd_as (FN := FNtc) mix hkn (by omega) hent hargs fun e0 hf ha => ?_
  obtain ⟨h0, h1, h2⟩ := hak e0 l W H ha
  exact hall e0 hf h0 h1 h2

theorem akG (e0 : Env) (l : List Int) (W H : Int) (ha : ArgsE e0 0 akTGets [l, [W], [H]]) : e0.row 0 = l ∧ vInt (e0.val 1) = W ∧ vInt (e0.val 2) = H := by
  simp only [ArgsE, ArgE, List.cons.injEq] at ha
  obtain ⟨_, _, ⟨rfl, rfl⟩, ⟨h0, _⟩, _, _, ⟨rfl, rfl⟩, h1, _, _, ⟨rfl, rfl⟩, h2, _⟩ := ha
  simp only [List.cons.injEq, and_true] at h1 h2
  exact ⟨h0, h1.symm, h2.symm⟩
theorem tget_E {b : List Int} {W H : Int} (h : (tgetM b W H).2.2 ≠ 0) : (tgetM b W H).1 = [] := by
  unfold tgetM at h ⊢
  repeat' split
  all_goals first
    | rfl
    | skip
  all_goals
    exfalso
    apply h
    simp_all

theorem tgets_law {w : World} {vs : Array Value} {b a c : List Int} (hB : bytes8 b) (hargs : ArgsAre w vs.toList akTGets [b, a, c]) : Calls Try.prog 7 vs w fun e w' => e = .returned (.bool true) ∧ RowKit.Below w.heap.size w w' := by
  obtain ⟨b', W, H, hh⟩ := tgets_rows hargs
  simp only [List.cons.injEq, and_true] at hh
  obtain ⟨rfl, rfl, rfl⟩ := hh
  by_cases hl : b.length ≤ 3000
  case neg =>
    refine tgets_inst rfl knTGets_ok akG hargs tgets_0 fun e0 hf q0 q1 q2 => ⟨?_, ⟨fun _ => rfl, trivial⟩⟩
    simp only [awT, ltR, l0, AsOk_cons, AsOk_nil, BE.eval, cmpI, IE.eval, IE.reval, IE.aeval, hf, q0, FNtc_134, List.headD_cons, Nat.div_one]
    simp; omega
  by_cases hc : (tgetM b W H).2.2 = 0
  case neg =>
    refine tgets_inst rfl knTGets_ok akG hargs tgets_1 fun e0 hf q0 q1 q2 => ⟨?_, ⟨fun _ => rfl, trivial⟩⟩
    simp only [asQ0, awT, ltR, l0, sameE, gQ, cQ, eQ, List.cons_append, List.nil_append, AsOk_cons, AsOk_nil, BE.eval, cmpI, IE.eval, IE.reval, IE.aeval, hf, q0, q1, q2, FNtc_134, FNtc_133 hB, FNtc_130, FNtc_132, FNtc_110, tget_E hc, List.headD_cons, Nat.div_one]
    simp [hc]; omega
  obtain ⟨p1, p2, p3, p4⟩ := tile_put_get hB hc
  have p5 := List.length_pos_iff.2 p4
  have p6 := List.length_pos_iff.2 p2
  have p7 : (tputM (tgetM b W H).2.1 (tgetM b W H).1 W H).1 = b := by rw [p1]
  have p8 : (tputM (tgetM b W H).2.1 (tgetM b W H).1 W H).2 = 0 := by rw [p1]
  refine tgets_inst rfl knTGets_ok akG hargs tgets_2 fun e0 hf q0 q1 q2 => ⟨?_, ?_⟩
  · simp only [asTGets, asQ0, awT, ltR, l0, pQ, gQ, cQ, kQ, eQ, List.cons_append, List.nil_append, AsOk_cons, AsOk_nil, BE.eval, cmpI, IE.eval, IE.reval, IE.aeval, hf, q0, q1, q2, FNtc_134, FNtc_133 hB, FNtc_130, FNtc_131, FNtc_132, FNtc_120, FNtc_121, FNtc_110, hc, p7, p8, if_true, List.headD_cons, Nat.div_one]
    simp; omega
  · simp only [allLeaves, StepL, BE.eval, IE.eval, IE.reval, IE.aeval, hf, q0, q1, q2, FNtc_130, FNtc_131, FNtc_120, p7, List.headD_cons]
    simp

end Go.Proofs.Ytkfejcffacbngaa.J


namespace Go.Proofs.Ytkfejcffacbngaa.J

open Go Go.Sym

set_option linter.unusedVariables false

end Go.Proofs.Ytkfejcffacbngaa.J

