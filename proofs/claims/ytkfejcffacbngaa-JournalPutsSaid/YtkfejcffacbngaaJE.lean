import Derived.Test.YtkfejcffacbngaaJD

namespace Go.Proofs.Ytkfejcffacbngaa.J

open Go Go.Sym

set_option linter.unusedVariables false

/-- one bit, as the program says it -/
def cstep (s : Int) : Int := binI .xor .u32 (binI .shr .u32 s 1) (binI .and .u32 2197175160 (binI .sub .u32 0 (binI .and .u32 s 1)))

def cit : Nat → Int → Int
  | 0, s => s
  | k + 1, s => cit k (cstep s)

def cbyte (s c : Int) : Int := cit 8 (binI .xor .u32 s (IntKind.u32.wrap c))

def cfold (s : Int) (l : List Int) : Int := l.foldl cbyte s

def crcM (s : Int) (l : List Int) : Int := binI .xor .u32 4294967295 (cfold (binI .xor .u32 4294967295 s) l)

def g86 : List (List Int) → List Int
  | [[s], b] => [crcM s b]
  | _ => []

def FNc : Nat → List (List Int) → List Int
  | 86, l => g86 l
  | i, l => FNb i l

def pcMore : Pc := ⟨151, [.int .u32, .sl [.u8]], [.int .u32], 86, [(0, 0, 4294967295), (1, 0, 4294967296)], []⟩

abbrev bM : SV := .rsl (.ro 1 [.u8]) (.lit 0) (.rlen (.rvar 1) 1) 1

abbrev asM : As := [(nonneg (.var 3), true), (atmB (.var 3) (.rlen (.rvar 1) 1), true), (atmB (.rlen (.rvar 1) 1) (.lit 4294967296), true)]

abbrev cutM : Cuts := [([0, 1, 0, 1, 1], ⟨32, [(0, .sint .u32 (.var 2)), (4, .int .u32 0), (9, bM), (10, .sint .i64 (.rlen (.rvar 1) 1)), (11, .sint .i64 (.var 3))], [], 0, asM⟩), ([0, 1, 1, 1, 0, 0, 1, 1, 0, 0, 1, 0, 1, 1], ⟨32, [(0, .sint .u32 (.var 2)), (4, .int .u32 0), (9, bM), (10, .sint .i64 (.rlen (.rvar 1) 1)), (11, .sint .i64 (.var 3)), (19, .sint .i64 (.var 4))], [], 0, asM ++ [(nonneg (.var 4), true), (atmB (.var 4) (.lit 8), true)]⟩)]

theorem more_entry : entryK Try.prog [] 50 200 151 cutM 2 (argSVs 0 pcMore.aks) 30 [] = some [([], .cut 0 ⟨[(3, .lit 0), (2, .bin .xor .u32 (.lit 4294967295) (.var 0))], [], [], []⟩)] := by kernel_rfl

theorem more_rounds : roundsK Try.prog [] 50 200 151 cutM 2 30 cutM = some [[([(.cmp .lss (.var 3) (.rlen (.rvar 1) 1), true), (.not (.cmp .lss (.var 3) (.lit 0)), true), (.not (.cmp .lss (.rlen (.rvar 1) 1) (.var 3)), true), (.not (.cmp .lss (.lit 4294967296) (.rlen (.rvar 1) 1)), true)], .cut 1 ⟨[(4, .lit 0), (3, .var 3), (2, .bin .xor .u32 (.var 2) (.wrap .u32 (.sel (.rvar 1) (.var 3) 1 0)))], [], [], []⟩), ([(.cmp .lss (.var 3) (.rlen (.rvar 1) 1), false), (.not (.cmp .lss (.var 3) (.lit 0)), true), (.not (.cmp .lss (.rlen (.rvar 1) 1) (.var 3)), true), (.not (.cmp .lss (.lit 4294967296) (.rlen (.rvar 1) 1)), true)], .ret (.sint .u32 (.bin .xor .u32 (.lit 4294967295) (.var 2))) ⟨0, .nil⟩)], [([(.cmp .lss (.var 4) (.lit 8), true), (.not (.cmp .lss (.var 3) (.lit 0)), true), (.not (.cmp .lss (.rlen (.rvar 1) 1) (.var 3)), true), (.not (.cmp .lss (.lit 4294967296) (.rlen (.rvar 1) 1)), true), (.not (.cmp .lss (.var 4) (.lit 0)), true), (.not (.cmp .lss (.lit 8) (.var 4)), true)], .cut 1 ⟨[(4, .bin .add .i64 (.var 4) (.lit 1)), (3, .var 3), (2, .bin .xor .u32 (.bin .shr .u32 (.var 2) (.lit 1)) (.bin .and .u32 (.lit 2197175160) (.bin .sub .u32 (.lit 0) (.bin .and .u32 (.var 2) (.lit 1)))))], [], [], []⟩), ([(.cmp .lss (.var 4) (.lit 8), false), (.not (.cmp .lss (.var 3) (.lit 0)), true), (.not (.cmp .lss (.rlen (.rvar 1) 1) (.var 3)), true), (.not (.cmp .lss (.lit 4294967296) (.rlen (.rvar 1) 1)), true), (.not (.cmp .lss (.var 4) (.lit 0)), true), (.not (.cmp .lss (.lit 8) (.var 4)), true)], .cut 0 ⟨[(3, .bin .add .i64 (.var 3) (.lit 1)), (2, .var 2)], [], [], []⟩)]] := by kernel_rfl

end Go.Proofs.Ytkfejcffacbngaa.J
