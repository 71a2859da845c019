import Derived.Test.YtkfejcffacbngaaJF

namespace Go.Proofs.Ytkfejcffacbngaa.J

open Go Go.Sym

set_option linter.unusedVariables false

/-- the document's More: the same number, by the other form of a step -/
def pcMoreR : Pc := ⟨152, [.int .u32, .sl [.u8]], [.int .u32], 86, [(0, 0, 4294967295), (1, 0, 4294967296)], []⟩

abbrev slR : List (Nat × SV) := [(0, .sint .u32 (.var 2)), (1, bM), (4, .int .u32 0), (5, .sint .i64 (.var 3))]

abbrev cutMR : Cuts := [([0, 1, 0, 1, 1], ⟨37, slR, [], 0, asM⟩), ([0, 1, 1, 0, 0, 1, 0, 0, 1, 0, 1, 1], ⟨37, slR ++ [(6, .sint .i64 (.var 4))], [], 0, asM ++ [(nonneg (.var 4), true), (atmB (.var 4) (.lit 8), true)]⟩)]

theorem moreR_entry : entryK Try.prog [] 50 200 152 cutMR 2 (argSVs 0 pcMoreR.aks) 30 [] = some [([], .cut 0 ⟨[(3, .lit 0), (2, .bin .xor .u32 (.var 0) (.lit 4294967295))], [], [], []⟩)] := by kernel_rfl

theorem moreR_rounds : roundsK Try.prog [] 50 200 152 cutMR 2 30 cutMR = some [[([(.cmp .lss (.var 3) (.rlen (.rvar 1) 1), true), (.not (.cmp .lss (.var 3) (.lit 0)), true), (.not (.cmp .lss (.rlen (.rvar 1) 1) (.var 3)), true), (.not (.cmp .lss (.lit 4294967296) (.rlen (.rvar 1) 1)), true)], .cut 1 ⟨[(4, .lit 0), (3, .var 3), (2, .bin .xor .u32 (.var 2) (.wrap .u32 (.sel (.rvar 1) (.var 3) 1 0)))], [], [], []⟩), ([(.cmp .lss (.var 3) (.rlen (.rvar 1) 1), false), (.not (.cmp .lss (.var 3) (.lit 0)), true), (.not (.cmp .lss (.rlen (.rvar 1) 1) (.var 3)), true), (.not (.cmp .lss (.lit 4294967296) (.rlen (.rvar 1) 1)), true)], .ret (.sint .u32 (.bin .xor .u32 (.var 2) (.lit 4294967295))) ⟨0, .nil⟩)], [([(.cmp .eql (.bin .rem .u32 (.var 2) (.lit 2)) (.lit 1), true), (.cmp .lss (.var 4) (.lit 8), true), (.not (.cmp .lss (.var 3) (.lit 0)), true), (.not (.cmp .lss (.rlen (.rvar 1) 1) (.var 3)), true), (.not (.cmp .lss (.lit 4294967296) (.rlen (.rvar 1) 1)), true), (.not (.cmp .lss (.var 4) (.lit 0)), true), (.not (.cmp .lss (.lit 8) (.var 4)), true)], .cut 1 ⟨[(4, .bin .add .i64 (.var 4) (.lit 1)), (3, .var 3), (2, .bin .xor .u32 (.bin .quo .u32 (.var 2) (.lit 2)) (.lit 2197175160))], [], [], []⟩), ([(.cmp .eql (.bin .rem .u32 (.var 2) (.lit 2)) (.lit 1), false), (.cmp .lss (.var 4) (.lit 8), true), (.not (.cmp .lss (.var 3) (.lit 0)), true), (.not (.cmp .lss (.rlen (.rvar 1) 1) (.var 3)), true), (.not (.cmp .lss (.lit 4294967296) (.rlen (.rvar 1) 1)), true), (.not (.cmp .lss (.var 4) (.lit 0)), true), (.not (.cmp .lss (.lit 8) (.var 4)), true)], .cut 1 ⟨[(4, .bin .add .i64 (.var 4) (.lit 1)), (3, .var 3), (2, .bin .quo .u32 (.var 2) (.lit 2))], [], [], []⟩), ([(.cmp .lss (.var 4) (.lit 8), false), (.not (.cmp .lss (.var 3) (.lit 0)), true), (.not (.cmp .lss (.rlen (.rvar 1) 1) (.var 3)), true), (.not (.cmp .lss (.lit 4294967296) (.rlen (.rvar 1) 1)), true), (.not (.cmp .lss (.var 4) (.lit 0)), true), (.not (.cmp .lss (.lit 8) (.var 4)), true)], .cut 0 ⟨[(3, .bin .add .i64 (.var 3) (.lit 1)), (2, .var 2)], [], [], []⟩)]] := by kernel_rfl

end Go.Proofs.Ytkfejcffacbngaa.J
