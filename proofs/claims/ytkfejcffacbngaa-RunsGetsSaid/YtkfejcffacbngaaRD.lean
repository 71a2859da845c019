import Derived.Test.YtkfejcffacbngaaRC

namespace Go.Proofs.Ytkfejcffacbngaa.J

open Go Go.Sym

set_option linter.unusedVariables false

/-- a number without its sign, in the program's words -/
def foldM (x : Int) : Int := if x < 0 then binI .add .u64 (binI .mul .u64 2 (IntKind.u64.wrap (binI .sub .i64 0 (binI .add .i64 x 1)))) 1 else binI .mul .u64 2 (IntKind.u64.wrap x)

def g100 : List (List Int) → List Int
  | [[x]] => [foldM x]
  | _ => []

def FNp : Nat → List (List Int) → List Int
  | 100, l => g100 l
  | i, l => FNa i l

theorem FNp_100 (x : Int) : FNp 100 [[x]] = [foldM x] := rfl

def pcFold : Pc := ⟨77, [.int .i64], [.int .u64], 100, [], []⟩
def pcFoldR : Pc := ⟨79, [.int .i64], [.int .u64], 100, [], []⟩

theorem fold_entry : entryK Try.prog [] 50 200 77 [] 1 (argSVs 0 pcFold.aks) 30 [] = some [([(.cmp .lss (.var 0) (.lit 0), true)], .ret (.sint .u64 (.bin .add .u64 (.bin .mul .u64 (.lit 2) (.wrap .u64 (.bin .sub .i64 (.lit 0) (.bin .add .i64 (.var 0) (.lit 1))))) (.lit 1))) ⟨0, .nil⟩), ([(.cmp .lss (.var 0) (.lit 0), false)], .ret (.sint .u64 (.bin .mul .u64 (.lit 2) (.wrap .u64 (.var 0)))) ⟨0, .nil⟩)] := by kernel_rfl

theorem foldR_entry : entryK Try.prog [] 50 200 79 [] 1 (argSVs 0 pcFoldR.aks) 30 [] = some [([(.cmp .lss (.var 0) (.lit 0), true)], .ret (.sint .u64 (.bin .add .u64 (.bin .mul .u64 (.lit 2) (.wrap .u64 (.bin .sub .i64 (.lit 0) (.bin .add .i64 (.var 0) (.lit 1))))) (.lit 1))) ⟨0, .nil⟩), ([(.cmp .lss (.var 0) (.lit 0), false)], .ret (.sint .u64 (.bin .mul .u64 (.lit 2) (.wrap .u64 (.var 0)))) ⟨0, .nil⟩)] := by kernel_rfl

end Go.Proofs.Ytkfejcffacbngaa.J
