import Derived.Test.YtkfejcffacbngaaRJ

namespace Go.Proofs.Ytkfejcffacbngaa.J

open Go Go.Sym

set_option linter.unusedVariables false

def g104 : List (List Int) → List Int
  | _ => [1]

def FNr : Nat → List (List Int) → List Int
  | 104, l => g104 l
  | i, l => FNq i l

theorem FNr_102 (b zs : List Int) : FNr 102 [b, zs] = b ++ putS (runsL zs) := rfl
theorem FNr_103 (zs : List Int) : FNr 103 [zs] = [((lenS (runsL zs) : Nat) : Int)] := rfl
theorem FNr_104 : FNr 104 [] = [1] := rfl

def pcAw : Pc := ⟨19, [], [.bool], 104, [], []⟩

abbrev ltR (a b : IE) (t : Bool) : BE × Bool := (.cmp .lss a b, t)
abbrev awR : BE × Bool := (.cmp .eql (.app 104 .anil) (.lit 0), false)
abbrev wkE : IE := .rapp 102 (.acons .rnil (.acons (.rcons (.lit 0) (.rcons (.lit 0) (.rcons (.lit 0) (.rcons (.lit (-1)) .rnil)))) .anil))

theorem aw_entry : entryK Try.prog [pcRPut.ct] 1 400 19 [] 0 [] 3 [ltR (.lit 0) (.rlen wkE 1) true] = some [([(.cmp .lss (.lit 0) (.rlen (.rapp 102 (.acons .rnil (.acons (.rcons (.lit 0) (.rcons (.lit 0) (.rcons (.lit 0) (.rcons (.lit (-1)) .rnil)))) .anil))) 1), true)], .ret (.sbool (.req (.w8 (.rapp 102 (.acons .rnil (.acons (.rcons (.lit 0) (.rcons (.lit 0) (.rcons (.lit 0) (.rcons (.lit (-1)) .rnil)))) .anil)))) (.rcon [0, 2, 1]))) ⟨0, .nil⟩)] := by kernel_rfl

abbrev akS : List ArgK := [.int .u16, .sl [.i64]]
abbrev lz : IE := .rlen (.rvar 1) 1
abbrev zE : IE := .app 103 (.acons (.rep (.var 0) (.rcon [0])) .anil)
abbrev asS0 : As := [ltR (.lit 4) zE false, ltR (.lit 1000000) (.var 0) false, ltR (.lit 17592186044416) (.var 0) false, ltR (.var 0) (.lit 0) false, awR, ltR (.lit 1000) lz false]
abbrev cutS : Cuts := [([0, 1, 0, 1, 1, 1, 1], ⟨39, [(1, .rsl (.ro 1 [.i64]) (.lit 0) lz 1), (4, .bool false), (5, .sint .i64 (.var 2))], [], 0, [(nonneg (.var 2), true), (atmB (.var 2) lz, true), (atmB lz (.lit 1000), true), (atmB lz (.lit 1000000), true)]⟩)]
abbrev knS : Kn := [pcAw.ct, pcRLen.ct]

theorem short_entry : entryK Try.prog knS 1 400 5 cutS 2 (argSVs 0 akS) 6 asS0 = some [([(.cmp .lss (.lit 4) (.app 103 (.acons (.rep (.var 0) (.rcon [0])) .anil)), false), (.cmp .lss (.lit 1000000) (.var 0), false), (.cmp .lss (.lit 17592186044416) (.var 0), false), (.cmp .lss (.var 0) (.lit 0), false), (.cmp .eql (.app 104 .anil) (.lit 0), false), (.cmp .lss (.lit 1000) (.rlen (.rvar 1) 1), false)], .cut 0 ⟨[(2, .lit 0)], [], [], []⟩)] := by kernel_rfl

theorem short_rounds : roundsK Try.prog knS 1 400 5 cutS 2 6 cutS = some [[([(.cmp .lss (.lit 4294967295) (.sel (.rvar 1) (.var 2) 1 0), true), (.cmp .lss (.var 2) (.rlen (.rvar 1) 1), true), (.not (.cmp .lss (.var 2) (.lit 0)), true), (.not (.cmp .lss (.rlen (.rvar 1) 1) (.var 2)), true), (.not (.cmp .lss (.lit 1000) (.rlen (.rvar 1) 1)), true), (.not (.cmp .lss (.lit 1000000) (.rlen (.rvar 1) 1)), true)], .ret (.bool true) ⟨0, .nil⟩), ([(.cmp .lss (.sel (.rvar 1) (.var 2) 1 0) (.lit (-4294967295)), true), (.cmp .lss (.lit 4294967295) (.sel (.rvar 1) (.var 2) 1 0), false), (.cmp .lss (.var 2) (.rlen (.rvar 1) 1), true), (.not (.cmp .lss (.var 2) (.lit 0)), true), (.not (.cmp .lss (.rlen (.rvar 1) 1) (.var 2)), true), (.not (.cmp .lss (.lit 1000) (.rlen (.rvar 1) 1)), true), (.not (.cmp .lss (.lit 1000000) (.rlen (.rvar 1) 1)), true)], .ret (.bool true) ⟨0, .nil⟩), ([(.cmp .lss (.sel (.rvar 1) (.var 2) 1 0) (.lit (-4294967295)), false), (.cmp .lss (.lit 4294967295) (.sel (.rvar 1) (.var 2) 1 0), false), (.cmp .lss (.var 2) (.rlen (.rvar 1) 1), true), (.not (.cmp .lss (.var 2) (.lit 0)), true), (.not (.cmp .lss (.rlen (.rvar 1) 1) (.var 2)), true), (.not (.cmp .lss (.lit 1000) (.rlen (.rvar 1) 1)), true), (.not (.cmp .lss (.lit 1000000) (.rlen (.rvar 1) 1)), true)], .cut 0 ⟨[(2, .bin .add .i64 (.var 2) (.lit 1))], [], [], []⟩), ([(.cmp .lss (.var 2) (.rlen (.rvar 1) 1), false), (.not (.cmp .lss (.var 2) (.lit 0)), true), (.not (.cmp .lss (.rlen (.rvar 1) 1) (.var 2)), true), (.not (.cmp .lss (.lit 1000) (.rlen (.rvar 1) 1)), true), (.not (.cmp .lss (.lit 1000000) (.rlen (.rvar 1) 1)), true)], .ret (.sbool (.not (.cmp .lss (.bin .mul .i64 (.lit 5) (.rlen (.rvar 1) 1)) (.app 103 (.acons (.rvar 1) .anil))))) ⟨0, .nil⟩)]] := by kernel_rfl

theorem short_long : entryK Try.prog knS 1 400 5 [] 2 (argSVs 0 akS) 6 [awR, ltR (.lit 1000) lz true] = some [([(.cmp .eql (.app 104 .anil) (.lit 0), false), (.cmp .lss (.lit 1000) (.rlen (.rvar 1) 1), true)], .ret (.bool true) ⟨0, .nil⟩)] := by kernel_rfl

end Go.Proofs.Ytkfejcffacbngaa.J
