import Derived.Test.YtkfejcffacbngaaRQ
import Derived.Test.YtkfejcffacbngaaJD

namespace Go.Proofs.Ytkfejcffacbngaa.J

open Go Go.Sym

set_option linter.unusedVariables false

/-- a number with its sign, in the program's words -/
def unfM (u : Int) : Int := if binI .rem .u64 u 2 = 1 then binI .sub .i64 (binI .sub .i64 0 (IntKind.i64.wrap (binI .quo .u64 u 2))) 1 else IntKind.i64.wrap (binI .quo .u64 u 2)

def getF (b : List Int) (n : Nat) : Nat → Int → List Int → Bool → List Int × Int × Int
  | 0, _, _, _ => ([], 0, 0)
  | f + 1, a, out, z =>
    if n ≤ out.length then (out, a, 0) else
    if (lebR b a).1 ≠ 0 then ([], 0, (lebR b a).1) else
    if lebU b a (lebR b a).2 ≠ 0 then getF b n f (a + (lebR b a).2) (out ++ [unfM (lebU b a (lebR b a).2)]) false else
    if z then ([], 0, 13) else
    if (lebR b (a + (lebR b a).2)).1 ≠ 0 then ([], 0, (lebR b (a + (lebR b a).2)).1) else
    if (n : Int) - out.length ≤ lebU b (a + (lebR b a).2) (lebR b (a + (lebR b a).2)).2 then ([], 0, 13) else
    getF b n f (a + (lebR b a).2 + (lebR b (a + (lebR b a).2)).2) (out ++ repL (lebU b (a + (lebR b a).2) (lebR b (a + (lebR b a).2)).2 + 1) [0]) true

def getM (b : List Int) (a n : Int) : List Int × Int × Int :=
  if a < 0 ∨ (b.length : Int) < a ∨ n < 0 ∨ 1048576 < n then ([], 0, 11) else getF b n.toNat (n.toNat + 1) a [] false

def g106 : List (List Int) → List Int
  | [b, [a], [n]] => (getM b a n).1
  | _ => []
def g107 : List (List Int) → List Int
  | [b, [a], [n]] => [(getM b a n).2.1]
  | _ => []
def g108 : List (List Int) → List Int
  | [b, [a], [n]] => [(getM b a n).2.2]
  | _ => []
def g109 : List (List Int) → List Int
  | [[u]] => [unfM u]
  | _ => []

def FNt : Nat → List (List Int) → List Int
  | 83, l => g83 l
  | 84, l => g84 l
  | 85, l => g85 l
  | 106, l => g106 l
  | 107, l => g107 l
  | 108, l => g108 l
  | 109, l => g109 l
  | i, l => FNs i l

theorem FNt_83 (b : List Int) (a : Int) : FNt 83 [b, [a]] = [if (lebR b a).1 = 0 then lebU b a (lebR b a).2 else 0] := rfl
theorem FNt_84 (b : List Int) (a : Int) : FNt 84 [b, [a]] = [if (lebR b a).1 = 0 then a + (lebR b a).2 else 0] := rfl
theorem FNt_85 (b : List Int) (a : Int) : FNt 85 [b, [a]] = [(lebR b a).1] := rfl
theorem FNt_106 (b : List Int) (a n : Int) : FNt 106 [b, [a], [n]] = (getM b a n).1 := rfl
theorem FNt_107 (b : List Int) (a n : Int) : FNt 107 [b, [a], [n]] = [(getM b a n).2.1] := rfl
theorem FNt_108 (b : List Int) (a n : Int) : FNt 108 [b, [a], [n]] = [(getM b a n).2.2] := rfl
theorem FNt_109 (u : Int) : FNt 109 [[u]] = [unfM u] := rfl

def pcUnf : Pc := ⟨82, [.int .u64], [.int .i64], 109, [], []⟩
def pcRGet : Pc := ⟨23, [.sl [.u8], .int .i64, .int .i64], [.sl 2 [.i64], .int .i64, .int .i64], 106, [(0, 0, 4294967296)], []⟩

theorem unf_entry : entryK Try.prog [] 50 200 82 [] 1 (argSVs 0 pcUnf.aks) 30 [] = some [([(.cmp .eql (.bin .rem .u64 (.var 0) (.lit 2)) (.lit 1), true)], .ret (.sint .i64 (.bin .sub .i64 (.bin .sub .i64 (.lit 0) (.wrap .i64 (.bin .quo .u64 (.var 0) (.lit 2)))) (.lit 1))) ⟨0, .nil⟩), ([(.cmp .eql (.bin .rem .u64 (.var 0) (.lit 2)) (.lit 1), false)], .ret (.sint .i64 (.wrap .i64 (.bin .quo .u64 (.var 0) (.lit 2)))) ⟨0, .nil⟩)] := by kernel_rfl

abbrev gA (a : IE) : IE := .acons (.rvar 0) (.acons (.rcons a .rnil) .anil)
abbrev nextE : IE := .app 84 (gA (.var 3))
abbrev moreE : IE := .app 83 (gA nextE)
abbrev mE : IE := .bin .add .u64 moreE (.lit 1)
abbrev blkI : Nat × Blk := (0, ⟨2, 0, [], .nil, true, some (.rvar 4, .var 5, [.i64])⟩)
abbrev asB0 : As := [(atmB lB (.lit 4294967296), true), ltR (.var 2) (.lit 0) false, ltR (.lit 1048576) (.var 2) false]
abbrev asC0 : As := [(nonneg (.var 5), true), (atmB (.var 5) (.var 2), true), (atmB (.var 5) (.lit 1048576), true), ltR (.lit 17592186044416) (.plus (.var 5) (.lit 1)) false]
abbrev slG : List (Nat × SV) := [(0, .rsl (.ro 0 [.u8]) (.lit 0) lB 1), (1, .sint .i64 (.var 3)), (2, .sint .i64 (.var 2)), (6, .nilslice), (7, .int .i64 0), (8, .int .i64 0)]
abbrev pG : List Nat := [0, 1, 0, 1, 1, 1]
abbrev rowI : SV := .rsl (.own 0) (.lit 0) (.var 5) 1

abbrev cutG : Cuts := [
  (pG, ⟨78, slG ++ [(9, .nilslice), (10, .bool false)], [], 0, asB0⟩),
  (pG, ⟨78, slG ++ [(9, rowI), (10, .bool false)], [blkI], 1, asB0 ++ asC0⟩),
  (pG, ⟨78, slG ++ [(9, rowI), (10, .bool true)], [blkI], 1, asB0 ++ asC0⟩)]

abbrev knG2 : Kn := [pcLebG.ct, pcUnf.ct]

theorem rget_entry : entryK Try.prog knG2 1 400 23 cutG 3 (argSVs 0 pcRGet.aks) 14 [(atmB lB (.lit 4294967296), true)] = some [([(.cmp .lss (.var 1) (.lit 0), true), (.not (.cmp .lss (.lit 4294967296) (.rlen (.rvar 0) 1)), true)], .ret (.tuple [.nilslice, .int .i64 0, .int .i64 11]) ⟨0, .nil⟩), ([(.cmp .lss (.rlen (.rvar 0) 1) (.var 1), true), (.cmp .lss (.var 1) (.lit 0), false), (.not (.cmp .lss (.lit 4294967296) (.rlen (.rvar 0) 1)), true)], .ret (.tuple [.nilslice, .int .i64 0, .int .i64 11]) ⟨0, .nil⟩), ([(.cmp .lss (.var 2) (.lit 0), true), (.cmp .lss (.rlen (.rvar 0) 1) (.var 1), false), (.cmp .lss (.var 1) (.lit 0), false), (.not (.cmp .lss (.lit 4294967296) (.rlen (.rvar 0) 1)), true)], .ret (.tuple [.nilslice, .int .i64 0, .int .i64 11]) ⟨0, .nil⟩), ([(.cmp .lss (.lit 1048576) (.var 2), true), (.cmp .lss (.var 2) (.lit 0), false), (.cmp .lss (.rlen (.rvar 0) 1) (.var 1), false), (.cmp .lss (.var 1) (.lit 0), false), (.not (.cmp .lss (.lit 4294967296) (.rlen (.rvar 0) 1)), true)], .ret (.tuple [.nilslice, .int .i64 0, .int .i64 11]) ⟨0, .nil⟩), ([(.cmp .lss (.lit 1048576) (.var 2), false), (.cmp .lss (.var 2) (.lit 0), false), (.cmp .lss (.rlen (.rvar 0) 1) (.var 1), false), (.cmp .lss (.var 1) (.lit 0), false), (.not (.cmp .lss (.lit 4294967296) (.rlen (.rvar 0) 1)), true)], .cut 0 ⟨[(3, .var 1)], [], [], []⟩)] := by kernel_rfl

theorem rget_rounds : roundsK Try.prog knG2 1 400 23 cutG 3 14 cutG = some [[([(.cmp .lss (.lit 17592186044416) (.bin .add .u64 (.app 83 (.acons (.rvar 0) (.acons (.rcons (.app 84 (.acons (.rvar 0) (.acons (.rcons (.var 3) .rnil) .anil))) .rnil) .anil))) (.lit 1)), true), (.cmp .lss (.lit 0) (.bin .add .u64 (.app 83 (.acons (.rvar 0) (.acons (.rcons (.app 84 (.acons (.rvar 0) (.acons (.rcons (.var 3) .rnil) .anil))) .rnil) .anil))) (.lit 1)), true), (.cmp .lss (.app 83 (.acons (.rvar 0) (.acons (.rcons (.app 84 (.acons (.rvar 0) (.acons (.rcons (.var 3) .rnil) .anil))) .rnil) .anil))) (.wrap .u64 (.bin .sub .i64 (.var 2) (.lit 0))), true), (.cmp .eql (.app 85 (.acons (.rvar 0) (.acons (.rcons (.app 84 (.acons (.rvar 0) (.acons (.rcons (.var 3) .rnil) .anil))) .rnil) .anil))) (.lit 0), true), (.cmp .eql (.app 83 (.acons (.rvar 0) (.acons (.rcons (.var 3) .rnil) .anil))) (.lit 0), true), (.cmp .eql (.app 85 (.acons (.rvar 0) (.acons (.rcons (.var 3) .rnil) .anil))) (.lit 0), true), (.cmp .lss (.lit 0) (.var 2), true), (.not (.cmp .lss (.lit 4294967296) (.rlen (.rvar 0) 1)), true), (.cmp .lss (.var 2) (.lit 0), false), (.cmp .lss (.lit 1048576) (.var 2), false)], .bad), ([(.cmp .lss (.lit 17592186044416) (.bin .add .u64 (.app 83 (.acons (.rvar 0) (.acons (.rcons (.app 84 (.acons (.rvar 0) (.acons (.rcons (.var 3) .rnil) .anil))) .rnil) .anil))) (.lit 1)), false), (.cmp .lss (.lit 0) (.bin .add .u64 (.app 83 (.acons (.rvar 0) (.acons (.rcons (.app 84 (.acons (.rvar 0) (.acons (.rcons (.var 3) .rnil) .anil))) .rnil) .anil))) (.lit 1)), true), (.cmp .lss (.app 83 (.acons (.rvar 0) (.acons (.rcons (.app 84 (.acons (.rvar 0) (.acons (.rcons (.var 3) .rnil) .anil))) .rnil) .anil))) (.wrap .u64 (.bin .sub .i64 (.var 2) (.lit 0))), true), (.cmp .eql (.app 85 (.acons (.rvar 0) (.acons (.rcons (.app 84 (.acons (.rvar 0) (.acons (.rcons (.var 3) .rnil) .anil))) .rnil) .anil))) (.lit 0), true), (.cmp .eql (.app 83 (.acons (.rvar 0) (.acons (.rcons (.var 3) .rnil) .anil))) (.lit 0), true), (.cmp .eql (.app 85 (.acons (.rvar 0) (.acons (.rcons (.var 3) .rnil) .anil))) (.lit 0), true), (.cmp .lss (.lit 0) (.var 2), true), (.not (.cmp .lss (.lit 4294967296) (.rlen (.rvar 0) 1)), true), (.cmp .lss (.var 2) (.lit 0), false), (.cmp .lss (.lit 1048576) (.var 2), false)], .cut 2 ⟨[(5, .bin .add .u64 (.app 83 (.acons (.rvar 0) (.acons (.rcons (.app 84 (.acons (.rvar 0) (.acons (.rcons (.var 3) .rnil) .anil))) .rnil) .anil))) (.lit 1)), (3, .app 84 (.acons (.rvar 0) (.acons (.rcons (.app 84 (.acons (.rvar 0) (.acons (.rcons (.var 3) .rnil) .anil))) .rnil) .anil)))], [(4, .rep (.bin .add .u64 (.app 83 (.acons (.rvar 0) (.acons (.rcons (.app 84 (.acons (.rvar 0) (.acons (.rcons (.var 3) .rnil) .anil))) .rnil) .anil))) (.lit 1)) (.rcon [0]))], [], [(0, 0)]⟩), ([(.cmp .lss (.bin .add .u64 (.app 83 (.acons (.rvar 0) (.acons (.rcons (.app 84 (.acons (.rvar 0) (.acons (.rcons (.var 3) .rnil) .anil))) .rnil) .anil))) (.lit 1)) (.lit 0), true), (.cmp .lss (.lit 0) (.bin .add .u64 (.app 83 (.acons (.rvar 0) (.acons (.rcons (.app 84 (.acons (.rvar 0) (.acons (.rcons (.var 3) .rnil) .anil))) .rnil) .anil))) (.lit 1)), false), (.cmp .lss (.app 83 (.acons (.rvar 0) (.acons (.rcons (.app 84 (.acons (.rvar 0) (.acons (.rcons (.var 3) .rnil) .anil))) .rnil) .anil))) (.wrap .u64 (.bin .sub .i64 (.var 2) (.lit 0))), true), (.cmp .eql (.app 85 (.acons (.rvar 0) (.acons (.rcons (.app 84 (.acons (.rvar 0) (.acons (.rcons (.var 3) .rnil) .anil))) .rnil) .anil))) (.lit 0), true), (.cmp .eql (.app 83 (.acons (.rvar 0) (.acons (.rcons (.var 3) .rnil) .anil))) (.lit 0), true), (.cmp .eql (.app 85 (.acons (.rvar 0) (.acons (.rcons (.var 3) .rnil) .anil))) (.lit 0), true), (.cmp .lss (.lit 0) (.var 2), true), (.not (.cmp .lss (.lit 4294967296) (.rlen (.rvar 0) 1)), true), (.cmp .lss (.var 2) (.lit 0), false), (.cmp .lss (.lit 1048576) (.var 2), false)], .bad), ([(.cmp .lss (.bin .add .u64 (.app 83 (.acons (.rvar 0) (.acons (.rcons (.app 84 (.acons (.rvar 0) (.acons (.rcons (.var 3) .rnil) .anil))) .rnil) .anil))) (.lit 1)) (.lit 0), false), (.cmp .lss (.lit 0) (.bin .add .u64 (.app 83 (.acons (.rvar 0) (.acons (.rcons (.app 84 (.acons (.rvar 0) (.acons (.rcons (.var 3) .rnil) .anil))) .rnil) .anil))) (.lit 1)), false), (.cmp .lss (.app 83 (.acons (.rvar 0) (.acons (.rcons (.app 84 (.acons (.rvar 0) (.acons (.rcons (.var 3) .rnil) .anil))) .rnil) .anil))) (.wrap .u64 (.bin .sub .i64 (.var 2) (.lit 0))), true), (.cmp .eql (.app 85 (.acons (.rvar 0) (.acons (.rcons (.app 84 (.acons (.rvar 0) (.acons (.rcons (.var 3) .rnil) .anil))) .rnil) .anil))) (.lit 0), true), (.cmp .eql (.app 83 (.acons (.rvar 0) (.acons (.rcons (.var 3) .rnil) .anil))) (.lit 0), true), (.cmp .eql (.app 85 (.acons (.rvar 0) (.acons (.rcons (.var 3) .rnil) .anil))) (.lit 0), true), (.cmp .lss (.lit 0) (.var 2), true), (.not (.cmp .lss (.lit 4294967296) (.rlen (.rvar 0) 1)), true), (.cmp .lss (.var 2) (.lit 0), false), (.cmp .lss (.lit 1048576) (.var 2), false)], .bad), ([(.cmp .lss (.app 83 (.acons (.rvar 0) (.acons (.rcons (.app 84 (.acons (.rvar 0) (.acons (.rcons (.var 3) .rnil) .anil))) .rnil) .anil))) (.wrap .u64 (.bin .sub .i64 (.var 2) (.lit 0))), false), (.cmp .eql (.app 85 (.acons (.rvar 0) (.acons (.rcons (.app 84 (.acons (.rvar 0) (.acons (.rcons (.var 3) .rnil) .anil))) .rnil) .anil))) (.lit 0), true), (.cmp .eql (.app 83 (.acons (.rvar 0) (.acons (.rcons (.var 3) .rnil) .anil))) (.lit 0), true), (.cmp .eql (.app 85 (.acons (.rvar 0) (.acons (.rcons (.var 3) .rnil) .anil))) (.lit 0), true), (.cmp .lss (.lit 0) (.var 2), true), (.not (.cmp .lss (.lit 4294967296) (.rlen (.rvar 0) 1)), true), (.cmp .lss (.var 2) (.lit 0), false), (.cmp .lss (.lit 1048576) (.var 2), false)], .ret (.tuple [.nilslice, .int .i64 0, .int .i64 13]) ⟨0, .nil⟩), ([(.cmp .eql (.app 85 (.acons (.rvar 0) (.acons (.rcons (.app 84 (.acons (.rvar 0) (.acons (.rcons (.var 3) .rnil) .anil))) .rnil) .anil))) (.lit 0), false), (.cmp .eql (.app 83 (.acons (.rvar 0) (.acons (.rcons (.var 3) .rnil) .anil))) (.lit 0), true), (.cmp .eql (.app 85 (.acons (.rvar 0) (.acons (.rcons (.var 3) .rnil) .anil))) (.lit 0), true), (.cmp .lss (.lit 0) (.var 2), true), (.not (.cmp .lss (.lit 4294967296) (.rlen (.rvar 0) 1)), true), (.cmp .lss (.var 2) (.lit 0), false), (.cmp .lss (.lit 1048576) (.var 2), false)], .ret (.tuple [.nilslice, .int .i64 0, .sint .i64 (.app 85 (.acons (.rvar 0) (.acons (.rcons (.app 84 (.acons (.rvar 0) (.acons (.rcons (.var 3) .rnil) .anil))) .rnil) .anil)))]) ⟨0, .nil⟩), ([(.cmp .eql (.app 83 (.acons (.rvar 0) (.acons (.rcons (.var 3) .rnil) .anil))) (.lit 0), false), (.cmp .eql (.app 85 (.acons (.rvar 0) (.acons (.rcons (.var 3) .rnil) .anil))) (.lit 0), true), (.cmp .lss (.lit 0) (.var 2), true), (.not (.cmp .lss (.lit 4294967296) (.rlen (.rvar 0) 1)), true), (.cmp .lss (.var 2) (.lit 0), false), (.cmp .lss (.lit 1048576) (.var 2), false)], .cut 1 ⟨[(5, .lit 1), (3, .app 84 (.acons (.rvar 0) (.acons (.rcons (.var 3) .rnil) .anil)))], [(4, .rcons (.app 109 (.acons (.rcons (.app 83 (.acons (.rvar 0) (.acons (.rcons (.var 3) .rnil) .anil))) .rnil) .anil)) .rnil)], [], [(0, 1)]⟩), ([(.cmp .eql (.app 85 (.acons (.rvar 0) (.acons (.rcons (.var 3) .rnil) .anil))) (.lit 0), false), (.cmp .lss (.lit 0) (.var 2), true), (.not (.cmp .lss (.lit 4294967296) (.rlen (.rvar 0) 1)), true), (.cmp .lss (.var 2) (.lit 0), false), (.cmp .lss (.lit 1048576) (.var 2), false)], .ret (.tuple [.nilslice, .int .i64 0, .sint .i64 (.app 85 (.acons (.rvar 0) (.acons (.rcons (.var 3) .rnil) .anil)))]) ⟨0, .nil⟩), ([(.cmp .lss (.lit 0) (.var 2), false), (.not (.cmp .lss (.lit 4294967296) (.rlen (.rvar 0) 1)), true), (.cmp .lss (.var 2) (.lit 0), false), (.cmp .lss (.lit 1048576) (.var 2), false)], .ret (.tuple [.nilslice, .sint .i64 (.var 3), .int .i64 0]) ⟨0, .nil⟩)], [([(.cmp .lss (.lit 17592186044416) (.plus (.var 5) (.bin .add .u64 (.app 83 (.acons (.rvar 0) (.acons (.rcons (.app 84 (.acons (.rvar 0) (.acons (.rcons (.var 3) .rnil) .anil))) .rnil) .anil))) (.lit 1))), true), (.cmp .lss (.app 83 (.acons (.rvar 0) (.acons (.rcons (.app 84 (.acons (.rvar 0) (.acons (.rcons (.var 3) .rnil) .anil))) .rnil) .anil))) (.wrap .u64 (.bin .sub .i64 (.var 2) (.var 5))), true), (.cmp .eql (.app 85 (.acons (.rvar 0) (.acons (.rcons (.app 84 (.acons (.rvar 0) (.acons (.rcons (.var 3) .rnil) .anil))) .rnil) .anil))) (.lit 0), true), (.cmp .eql (.app 83 (.acons (.rvar 0) (.acons (.rcons (.var 3) .rnil) .anil))) (.lit 0), true), (.cmp .eql (.app 85 (.acons (.rvar 0) (.acons (.rcons (.var 3) .rnil) .anil))) (.lit 0), true), (.cmp .lss (.var 5) (.var 2), true), (.not (.cmp .lss (.lit 4294967296) (.rlen (.rvar 0) 1)), true), (.cmp .lss (.var 2) (.lit 0), false), (.cmp .lss (.lit 1048576) (.var 2), false), (.not (.cmp .lss (.var 5) (.lit 0)), true), (.not (.cmp .lss (.var 2) (.var 5)), true), (.not (.cmp .lss (.lit 1048576) (.var 5)), true), (.cmp .lss (.lit 17592186044416) (.plus (.var 5) (.lit 1)), false)], .bad), ([(.cmp .lss (.bin .add .u64 (.app 83 (.acons (.rvar 0) (.acons (.rcons (.app 84 (.acons (.rvar 0) (.acons (.rcons (.var 3) .rnil) .anil))) .rnil) .anil))) (.lit 1)) (.lit 0), true), (.cmp .lss (.lit 17592186044416) (.plus (.var 5) (.bin .add .u64 (.app 83 (.acons (.rvar 0) (.acons (.rcons (.app 84 (.acons (.rvar 0) (.acons (.rcons (.var 3) .rnil) .anil))) .rnil) .anil))) (.lit 1))), false), (.cmp .lss (.app 83 (.acons (.rvar 0) (.acons (.rcons (.app 84 (.acons (.rvar 0) (.acons (.rcons (.var 3) .rnil) .anil))) .rnil) .anil))) (.wrap .u64 (.bin .sub .i64 (.var 2) (.var 5))), true), (.cmp .eql (.app 85 (.acons (.rvar 0) (.acons (.rcons (.app 84 (.acons (.rvar 0) (.acons (.rcons (.var 3) .rnil) .anil))) .rnil) .anil))) (.lit 0), true), (.cmp .eql (.app 83 (.acons (.rvar 0) (.acons (.rcons (.var 3) .rnil) .anil))) (.lit 0), true), (.cmp .eql (.app 85 (.acons (.rvar 0) (.acons (.rcons (.var 3) .rnil) .anil))) (.lit 0), true), (.cmp .lss (.var 5) (.var 2), true), (.not (.cmp .lss (.lit 4294967296) (.rlen (.rvar 0) 1)), true), (.cmp .lss (.var 2) (.lit 0), false), (.cmp .lss (.lit 1048576) (.var 2), false), (.not (.cmp .lss (.var 5) (.lit 0)), true), (.not (.cmp .lss (.var 2) (.var 5)), true), (.not (.cmp .lss (.lit 1048576) (.var 5)), true), (.cmp .lss (.lit 17592186044416) (.plus (.var 5) (.lit 1)), false)], .bad), ([(.cmp .lss (.lit 17592186044416) (.bin .add .u64 (.app 83 (.acons (.rvar 0) (.acons (.rcons (.app 84 (.acons (.rvar 0) (.acons (.rcons (.var 3) .rnil) .anil))) .rnil) .anil))) (.lit 1)), true), (.cmp .lss (.bin .add .u64 (.app 83 (.acons (.rvar 0) (.acons (.rcons (.app 84 (.acons (.rvar 0) (.acons (.rcons (.var 3) .rnil) .anil))) .rnil) .anil))) (.lit 1)) (.lit 0), false), (.cmp .lss (.lit 17592186044416) (.plus (.var 5) (.bin .add .u64 (.app 83 (.acons (.rvar 0) (.acons (.rcons (.app 84 (.acons (.rvar 0) (.acons (.rcons (.var 3) .rnil) .anil))) .rnil) .anil))) (.lit 1))), false), (.cmp .lss (.app 83 (.acons (.rvar 0) (.acons (.rcons (.app 84 (.acons (.rvar 0) (.acons (.rcons (.var 3) .rnil) .anil))) .rnil) .anil))) (.wrap .u64 (.bin .sub .i64 (.var 2) (.var 5))), true), (.cmp .eql (.app 85 (.acons (.rvar 0) (.acons (.rcons (.app 84 (.acons (.rvar 0) (.acons (.rcons (.var 3) .rnil) .anil))) .rnil) .anil))) (.lit 0), true), (.cmp .eql (.app 83 (.acons (.rvar 0) (.acons (.rcons (.var 3) .rnil) .anil))) (.lit 0), true), (.cmp .eql (.app 85 (.acons (.rvar 0) (.acons (.rcons (.var 3) .rnil) .anil))) (.lit 0), true), (.cmp .lss (.var 5) (.var 2), true), (.not (.cmp .lss (.lit 4294967296) (.rlen (.rvar 0) 1)), true), (.cmp .lss (.var 2) (.lit 0), false), (.cmp .lss (.lit 1048576) (.var 2), false), (.not (.cmp .lss (.var 5) (.lit 0)), true), (.not (.cmp .lss (.var 2) (.var 5)), true), (.not (.cmp .lss (.lit 1048576) (.var 5)), true), (.cmp .lss (.lit 17592186044416) (.plus (.var 5) (.lit 1)), false)], .bad), ([(.cmp .lss (.lit 17592186044416) (.bin .add .u64 (.app 83 (.acons (.rvar 0) (.acons (.rcons (.app 84 (.acons (.rvar 0) (.acons (.rcons (.var 3) .rnil) .anil))) .rnil) .anil))) (.lit 1)), false), (.cmp .lss (.bin .add .u64 (.app 83 (.acons (.rvar 0) (.acons (.rcons (.app 84 (.acons (.rvar 0) (.acons (.rcons (.var 3) .rnil) .anil))) .rnil) .anil))) (.lit 1)) (.lit 0), false), (.cmp .lss (.lit 17592186044416) (.plus (.var 5) (.bin .add .u64 (.app 83 (.acons (.rvar 0) (.acons (.rcons (.app 84 (.acons (.rvar 0) (.acons (.rcons (.var 3) .rnil) .anil))) .rnil) .anil))) (.lit 1))), false), (.cmp .lss (.app 83 (.acons (.rvar 0) (.acons (.rcons (.app 84 (.acons (.rvar 0) (.acons (.rcons (.var 3) .rnil) .anil))) .rnil) .anil))) (.wrap .u64 (.bin .sub .i64 (.var 2) (.var 5))), true), (.cmp .eql (.app 85 (.acons (.rvar 0) (.acons (.rcons (.app 84 (.acons (.rvar 0) (.acons (.rcons (.var 3) .rnil) .anil))) .rnil) .anil))) (.lit 0), true), (.cmp .eql (.app 83 (.acons (.rvar 0) (.acons (.rcons (.var 3) .rnil) .anil))) (.lit 0), true), (.cmp .eql (.app 85 (.acons (.rvar 0) (.acons (.rcons (.var 3) .rnil) .anil))) (.lit 0), true), (.cmp .lss (.var 5) (.var 2), true), (.not (.cmp .lss (.lit 4294967296) (.rlen (.rvar 0) 1)), true), (.cmp .lss (.var 2) (.lit 0), false), (.cmp .lss (.lit 1048576) (.var 2), false), (.not (.cmp .lss (.var 5) (.lit 0)), true), (.not (.cmp .lss (.var 2) (.var 5)), true), (.not (.cmp .lss (.lit 1048576) (.var 5)), true), (.cmp .lss (.lit 17592186044416) (.plus (.var 5) (.lit 1)), false)], .cut 2 ⟨[(5, .plus (.var 5) (.bin .add .u64 (.app 83 (.acons (.rvar 0) (.acons (.rcons (.app 84 (.acons (.rvar 0) (.acons (.rcons (.var 3) .rnil) .anil))) .rnil) .anil))) (.lit 1))), (3, .app 84 (.acons (.rvar 0) (.acons (.rcons (.app 84 (.acons (.rvar 0) (.acons (.rcons (.var 3) .rnil) .anil))) .rnil) .anil)))], [(4, .cat (.rvar 4) (.rep (.bin .add .u64 (.app 83 (.acons (.rvar 0) (.acons (.rcons (.app 84 (.acons (.rvar 0) (.acons (.rcons (.var 3) .rnil) .anil))) .rnil) .anil))) (.lit 1)) (.rcon [0])))], [], [(0, 1)]⟩), ([(.cmp .lss (.app 83 (.acons (.rvar 0) (.acons (.rcons (.app 84 (.acons (.rvar 0) (.acons (.rcons (.var 3) .rnil) .anil))) .rnil) .anil))) (.wrap .u64 (.bin .sub .i64 (.var 2) (.var 5))), false), (.cmp .eql (.app 85 (.acons (.rvar 0) (.acons (.rcons (.app 84 (.acons (.rvar 0) (.acons (.rcons (.var 3) .rnil) .anil))) .rnil) .anil))) (.lit 0), true), (.cmp .eql (.app 83 (.acons (.rvar 0) (.acons (.rcons (.var 3) .rnil) .anil))) (.lit 0), true), (.cmp .eql (.app 85 (.acons (.rvar 0) (.acons (.rcons (.var 3) .rnil) .anil))) (.lit 0), true), (.cmp .lss (.var 5) (.var 2), true), (.not (.cmp .lss (.lit 4294967296) (.rlen (.rvar 0) 1)), true), (.cmp .lss (.var 2) (.lit 0), false), (.cmp .lss (.lit 1048576) (.var 2), false), (.not (.cmp .lss (.var 5) (.lit 0)), true), (.not (.cmp .lss (.var 2) (.var 5)), true), (.not (.cmp .lss (.lit 1048576) (.var 5)), true), (.cmp .lss (.lit 17592186044416) (.plus (.var 5) (.lit 1)), false)], .ret (.tuple [.nilslice, .int .i64 0, .int .i64 13]) ⟨0, .nil⟩), ([(.cmp .eql (.app 85 (.acons (.rvar 0) (.acons (.rcons (.app 84 (.acons (.rvar 0) (.acons (.rcons (.var 3) .rnil) .anil))) .rnil) .anil))) (.lit 0), false), (.cmp .eql (.app 83 (.acons (.rvar 0) (.acons (.rcons (.var 3) .rnil) .anil))) (.lit 0), true), (.cmp .eql (.app 85 (.acons (.rvar 0) (.acons (.rcons (.var 3) .rnil) .anil))) (.lit 0), true), (.cmp .lss (.var 5) (.var 2), true), (.not (.cmp .lss (.lit 4294967296) (.rlen (.rvar 0) 1)), true), (.cmp .lss (.var 2) (.lit 0), false), (.cmp .lss (.lit 1048576) (.var 2), false), (.not (.cmp .lss (.var 5) (.lit 0)), true), (.not (.cmp .lss (.var 2) (.var 5)), true), (.not (.cmp .lss (.lit 1048576) (.var 5)), true), (.cmp .lss (.lit 17592186044416) (.plus (.var 5) (.lit 1)), false)], .ret (.tuple [.nilslice, .int .i64 0, .sint .i64 (.app 85 (.acons (.rvar 0) (.acons (.rcons (.app 84 (.acons (.rvar 0) (.acons (.rcons (.var 3) .rnil) .anil))) .rnil) .anil)))]) ⟨0, .nil⟩), ([(.cmp .eql (.app 83 (.acons (.rvar 0) (.acons (.rcons (.var 3) .rnil) .anil))) (.lit 0), false), (.cmp .eql (.app 85 (.acons (.rvar 0) (.acons (.rcons (.var 3) .rnil) .anil))) (.lit 0), true), (.cmp .lss (.var 5) (.var 2), true), (.not (.cmp .lss (.lit 4294967296) (.rlen (.rvar 0) 1)), true), (.cmp .lss (.var 2) (.lit 0), false), (.cmp .lss (.lit 1048576) (.var 2), false), (.not (.cmp .lss (.var 5) (.lit 0)), true), (.not (.cmp .lss (.var 2) (.var 5)), true), (.not (.cmp .lss (.lit 1048576) (.var 5)), true), (.cmp .lss (.lit 17592186044416) (.plus (.var 5) (.lit 1)), false)], .cut 1 ⟨[(5, .plus (.var 5) (.lit 1)), (3, .app 84 (.acons (.rvar 0) (.acons (.rcons (.var 3) .rnil) .anil)))], [(4, .cat (.rvar 4) (.rcons (.app 109 (.acons (.rcons (.app 83 (.acons (.rvar 0) (.acons (.rcons (.var 3) .rnil) .anil))) .rnil) .anil)) .rnil))], [], [(0, 2)]⟩), ([(.cmp .eql (.app 85 (.acons (.rvar 0) (.acons (.rcons (.var 3) .rnil) .anil))) (.lit 0), false), (.cmp .lss (.var 5) (.var 2), true), (.not (.cmp .lss (.lit 4294967296) (.rlen (.rvar 0) 1)), true), (.cmp .lss (.var 2) (.lit 0), false), (.cmp .lss (.lit 1048576) (.var 2), false), (.not (.cmp .lss (.var 5) (.lit 0)), true), (.not (.cmp .lss (.var 2) (.var 5)), true), (.not (.cmp .lss (.lit 1048576) (.var 5)), true), (.cmp .lss (.lit 17592186044416) (.plus (.var 5) (.lit 1)), false)], .ret (.tuple [.nilslice, .int .i64 0, .sint .i64 (.app 85 (.acons (.rvar 0) (.acons (.rcons (.var 3) .rnil) .anil)))]) ⟨0, .nil⟩), ([(.cmp .lss (.var 5) (.var 2), false), (.not (.cmp .lss (.lit 4294967296) (.rlen (.rvar 0) 1)), true), (.cmp .lss (.var 2) (.lit 0), false), (.cmp .lss (.lit 1048576) (.var 2), false), (.not (.cmp .lss (.var 5) (.lit 0)), true), (.not (.cmp .lss (.var 2) (.var 5)), true), (.not (.cmp .lss (.lit 1048576) (.var 5)), true), (.cmp .lss (.lit 17592186044416) (.plus (.var 5) (.lit 1)), false)], .ret (.tuple [.rsl (.own 0) (.lit 0) (.var 5) 1, .sint .i64 (.var 3), .int .i64 0]) ⟨1, (.node (some ⟨2, 0, [], .nil, true, (some (.rvar 4, (.var 5, [.i64])))⟩) .nil .nil)⟩)], [([(.cmp .eql (.app 83 (.acons (.rvar 0) (.acons (.rcons (.var 3) .rnil) .anil))) (.lit 0), true), (.cmp .eql (.app 85 (.acons (.rvar 0) (.acons (.rcons (.var 3) .rnil) .anil))) (.lit 0), true), (.cmp .lss (.var 5) (.var 2), true), (.not (.cmp .lss (.lit 4294967296) (.rlen (.rvar 0) 1)), true), (.cmp .lss (.var 2) (.lit 0), false), (.cmp .lss (.lit 1048576) (.var 2), false), (.not (.cmp .lss (.var 5) (.lit 0)), true), (.not (.cmp .lss (.var 2) (.var 5)), true), (.not (.cmp .lss (.lit 1048576) (.var 5)), true), (.cmp .lss (.lit 17592186044416) (.plus (.var 5) (.lit 1)), false)], .ret (.tuple [.nilslice, .int .i64 0, .int .i64 13]) ⟨0, .nil⟩), ([(.cmp .eql (.app 83 (.acons (.rvar 0) (.acons (.rcons (.var 3) .rnil) .anil))) (.lit 0), false), (.cmp .eql (.app 85 (.acons (.rvar 0) (.acons (.rcons (.var 3) .rnil) .anil))) (.lit 0), true), (.cmp .lss (.var 5) (.var 2), true), (.not (.cmp .lss (.lit 4294967296) (.rlen (.rvar 0) 1)), true), (.cmp .lss (.var 2) (.lit 0), false), (.cmp .lss (.lit 1048576) (.var 2), false), (.not (.cmp .lss (.var 5) (.lit 0)), true), (.not (.cmp .lss (.var 2) (.var 5)), true), (.not (.cmp .lss (.lit 1048576) (.var 5)), true), (.cmp .lss (.lit 17592186044416) (.plus (.var 5) (.lit 1)), false)], .cut 1 ⟨[(5, .plus (.var 5) (.lit 1)), (3, .app 84 (.acons (.rvar 0) (.acons (.rcons (.var 3) .rnil) .anil)))], [(4, .cat (.rvar 4) (.rcons (.app 109 (.acons (.rcons (.app 83 (.acons (.rvar 0) (.acons (.rcons (.var 3) .rnil) .anil))) .rnil) .anil)) .rnil))], [], [(0, 2)]⟩), ([(.cmp .eql (.app 85 (.acons (.rvar 0) (.acons (.rcons (.var 3) .rnil) .anil))) (.lit 0), false), (.cmp .lss (.var 5) (.var 2), true), (.not (.cmp .lss (.lit 4294967296) (.rlen (.rvar 0) 1)), true), (.cmp .lss (.var 2) (.lit 0), false), (.cmp .lss (.lit 1048576) (.var 2), false), (.not (.cmp .lss (.var 5) (.lit 0)), true), (.not (.cmp .lss (.var 2) (.var 5)), true), (.not (.cmp .lss (.lit 1048576) (.var 5)), true), (.cmp .lss (.lit 17592186044416) (.plus (.var 5) (.lit 1)), false)], .ret (.tuple [.nilslice, .int .i64 0, .sint .i64 (.app 85 (.acons (.rvar 0) (.acons (.rcons (.var 3) .rnil) .anil)))]) ⟨0, .nil⟩), ([(.cmp .lss (.var 5) (.var 2), false), (.not (.cmp .lss (.lit 4294967296) (.rlen (.rvar 0) 1)), true), (.cmp .lss (.var 2) (.lit 0), false), (.cmp .lss (.lit 1048576) (.var 2), false), (.not (.cmp .lss (.var 5) (.lit 0)), true), (.not (.cmp .lss (.var 2) (.var 5)), true), (.not (.cmp .lss (.lit 1048576) (.var 5)), true), (.cmp .lss (.lit 17592186044416) (.plus (.var 5) (.lit 1)), false)], .ret (.tuple [.rsl (.own 0) (.lit 0) (.var 5) 1, .sint .i64 (.var 3), .int .i64 0]) ⟨1, (.node (some ⟨2, 0, [], .nil, true, (some (.rvar 4, (.var 5, [.i64])))⟩) .nil .nil)⟩)]] := by kernel_rfl

end Go.Proofs.Ytkfejcffacbngaa.J

namespace Go.Proofs.Ytkfejcffacbngaa.J

open Go Go.Sym

set_option linter.unusedVariables false

theorem s_t {c : Pc} (h : PcOk Try.prog FNs c) (h1 : ∀ i, i < c.rks.length → c.id + i ≤ 82 ∨ (86 ≤ c.id + i ∧ c.id + i ≤ 105)) (h2 : c.pre = []) : PcOk Try.prog FNt c := by
  refine h.cong (fun i hi => ?_) (fun i hi => by rw [h2] at hi; cases hi)
  have := h1 i hi
  generalize c.id + i = j at this
  funext l
  unfold FNt
  split <;> first | omega | rfl

theorem bt {c : Pc} (h : PcOk Try.prog FNb c) (h1 : ∀ i, i < c.rks.length → 83 ≤ c.id + i ∧ c.id + i ≤ 85) (h2 : c.pre = []) : PcOk Try.prog FNt c := by
  refine h.cong (fun i hi => ?_) (fun i hi => by rw [h2] at hi; cases hi)
  have := h1 i hi
  obtain h | h | h : c.id + i = 83 ∨ c.id + i = 84 ∨ c.id + i = 85 := by omega
  · rw [h]; rfl
  · rw [h]; rfl
  · rw [h]; rfl

theorem lebG_t : PcOk Try.prog FNt pcLebG := bt lebG_ok (by decide) rfl

theorem unf_ok : PcOk Try.prog FNt pcUnf := by
  intro w vs ls hargs hrng hpre
  refine pc_inst' mix pcUnf (fun _ _ => knOk_nil) (by decide) unf_entry hargs fun e0 hf ha => ⟨(fun p hp => by cases hp), ?_⟩
  simp only [pcUnf, ArgsE, ArgE] at ha
  obtain ⟨l, _, rfl, hl, rfl⟩ := ha
  obtain ⟨u, hu⟩ : ∃ u, vInt (e0.val 0) = u := ⟨_, rfl⟩
  rw [hu] at hl
  subst hl
  simp only [allLeaves, AsOk_cons, AsOk_nil, BE.eval, cmpI, IE.eval, hu, and_true, decide_eq_true_eq, decide_eq_false_iff_not]
  refine ⟨fun hA => ⟨[_], rfl, ⟨_, rfl, ?_⟩, rfl⟩, fun hA => ⟨[_], rfl, ⟨_, rfl, ?_⟩, rfl⟩⟩
  · simp only [IE.eval, hu, pcUnf, FNt_109, unfM, if_pos hA, List.headD_cons]
  · simp only [IE.eval, hu, pcUnf, FNt_109, unfM, if_neg hA, List.headD_cons]

theorem knG2_ok : ∀ env : Env, env.fn = FNt → KnOk Try.prog env knG2 := fun env h => knOk_cons (knOk_cons knOk_nil (Pc.ct_ok h unf_ok)) (Pc.ct_ok h lebG_t)

theorem or64_rng' (x y : Int) : 0 ≤ binI .or .u64 x y ∧ binI .or .u64 x y < 18446744073709551616 := by
  have h : (BitVec.ofInt 64 x ||| BitVec.ofInt 64 y).toNat < 2 ^ 64 := (BitVec.ofInt 64 x ||| BitVec.ofInt 64 y).isLt
  show 0 ≤ IntKind.u64.wrap ((BitVec.ofInt 64 x ||| BitVec.ofInt 64 y).toNat : Int) ∧ IntKind.u64.wrap ((BitVec.ofInt 64 x ||| BitVec.ofInt 64 y).toNat : Int) < 18446744073709551616
  rw [wrap_u64 (by omega)]
  omega

theorem lebU_rng' (b : List Int) (a : Int) (k : Nat) : 0 ≤ lebU b a k ∧ lebU b a k < 18446744073709551616 := by
  cases k with
  | zero => simp [lebU]
  | succ k => exact or64_rng' _ _

theorem repL_len (m : Int) (h : 0 ≤ m) : ((repL m [0]).length : Int) = m := by
  have : (repL m [0]).length = m.toNat := by
    simp only [repL]
    generalize m.toNat = q
    induction q with
    | zero => rfl
    | succ q ih => rw [List.replicate_succ, List.flatten_cons, List.length_append, ih]; simp; omega
  omega

/-- where the run of Get stands -/
def Stands (b : List Int) (a n : Int) (p : Int) (out : List Int) (z : Bool) : Prop := ∃ f : Nat, getM b a n = getF b n.toNat f p out z ∧ (out.length : Int) ≤ n ∧ n.toNat < out.length + f

section
variable {b : List Int} {a n p : Int} {out : List Int} {z : Bool}

theorem Stands.done (h : Stands b a n p out z) (hn : ¬ (out.length : Int) < n) : getM b a n = (out, p, 0) := by
  obtain ⟨f, h1, h2, h3⟩ := h
  obtain ⟨f, rfl⟩ : ∃ q, f = q + 1 := ⟨f - 1, by omega⟩
  rw [h1, getF, if_pos (by omega)]

theorem Stands.code (h : Stands b a n p out z) (hn : (out.length : Int) < n) (he : (lebR b p).1 ≠ 0) : getM b a n = ([], 0, (lebR b p).1) := by
  obtain ⟨f, h1, h2, h3⟩ := h
  obtain ⟨f, rfl⟩ : ∃ q, f = q + 1 := ⟨f - 1, by omega⟩
  rw [h1, getF, if_neg (by omega), if_pos he]

theorem Stands.num (h : Stands b a n p out z) (hn : (out.length : Int) < n) (he : (lebR b p).1 = 0) (hu : lebU b p (lebR b p).2 ≠ 0) : Stands b a n (p + (lebR b p).2) (out ++ [unfM (lebU b p (lebR b p).2)]) false := by
  obtain ⟨f, h1, h2, h3⟩ := h
  obtain ⟨f, rfl⟩ : ∃ q, f = q + 1 := ⟨f - 1, by omega⟩
  refine ⟨f, ?_, by simp; omega, by simp; omega⟩
  rw [h1, getF, if_neg (by omega), if_neg (by rw [he]; simp), if_pos hu]

theorem Stands.twice (h : Stands b a n p out true) (hn : (out.length : Int) < n) (he : (lebR b p).1 = 0) (hu : lebU b p (lebR b p).2 = 0) : getM b a n = ([], 0, 13) := by
  obtain ⟨f, h1, h2, h3⟩ := h
  obtain ⟨f, rfl⟩ : ∃ q, f = q + 1 := ⟨f - 1, by omega⟩
  rw [h1, getF, if_neg (by omega), if_neg (by rw [he]; simp), if_neg (by rw [hu]; simp), if_pos rfl]

theorem Stands.code2 (h : Stands b a n p out false) (hn : (out.length : Int) < n) (he : (lebR b p).1 = 0) (hu : lebU b p (lebR b p).2 = 0) (he2 : (lebR b (p + (lebR b p).2)).1 ≠ 0) : getM b a n = ([], 0, (lebR b (p + (lebR b p).2)).1) := by
  obtain ⟨f, h1, h2, h3⟩ := h
  obtain ⟨f, rfl⟩ : ∃ q, f = q + 1 := ⟨f - 1, by omega⟩
  rw [h1, getF, if_neg (by omega), if_neg (by rw [he]; simp), if_neg (by rw [hu]; simp), if_neg (by simp), if_pos he2]

theorem Stands.many (h : Stands b a n p out false) (hn : (out.length : Int) < n) (he : (lebR b p).1 = 0) (hu : lebU b p (lebR b p).2 = 0) (he2 : (lebR b (p + (lebR b p).2)).1 = 0) (hm : n - out.length ≤ lebU b (p + (lebR b p).2) (lebR b (p + (lebR b p).2)).2) : getM b a n = ([], 0, 13) := by
  obtain ⟨f, h1, h2, h3⟩ := h
  obtain ⟨f, rfl⟩ : ∃ q, f = q + 1 := ⟨f - 1, by omega⟩
  rw [h1, getF, if_neg (by omega), if_neg (by rw [he]; simp), if_neg (by rw [hu]; simp), if_neg (by simp), if_neg (by rw [he2]; simp), if_pos (by omega)]

theorem Stands.zeros (h : Stands b a n p out false) (hn : (out.length : Int) < n) (he : (lebR b p).1 = 0) (hu : lebU b p (lebR b p).2 = 0) (he2 : (lebR b (p + (lebR b p).2)).1 = 0) (hm : lebU b (p + (lebR b p).2) (lebR b (p + (lebR b p).2)).2 < n - out.length) :
    Stands b a n (p + (lebR b p).2 + (lebR b (p + (lebR b p).2)).2) (out ++ repL (lebU b (p + (lebR b p).2) (lebR b (p + (lebR b p).2)).2 + 1) [0]) true := by
  obtain ⟨f, h1, h2, h3⟩ := h
  obtain ⟨f, rfl⟩ : ∃ q, f = q + 1 := ⟨f - 1, by omega⟩
  have hr := repL_len (lebU b (p + (lebR b p).2) (lebR b (p + (lebR b p).2)).2 + 1) (by have := (lebU_rng' b (p + (lebR b p).2) (lebR b (p + (lebR b p).2)).2).1; omega)
  have h0 := (lebU_rng' b (p + (lebR b p).2) (lebR b (p + (lebR b p).2)).2).1
  refine ⟨f, ?_, by rw [List.length_append]; omega, by rw [List.length_append]; omega⟩
  rw [h1, getF, if_neg (by omega), if_neg (by rw [he]; simp), if_neg (by rw [hu]; simp), if_neg (by simp), if_neg (by rw [he2]; simp), if_neg (by omega)]
end

theorem Stands.start {b : List Int} {a n : Int} (h0 : 0 ≤ a) (h1 : a ≤ b.length) (h2 : 0 ≤ n) (h3 : n ≤ 1048576) : Stands b a n a [] false :=
  ⟨n.toNat + 1, by rw [getM, if_neg (by omega)], by simpa using h2, by simp⟩

end Go.Proofs.Ytkfejcffacbngaa.J
