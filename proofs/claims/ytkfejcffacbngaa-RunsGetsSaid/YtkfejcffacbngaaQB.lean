import Derived.Test.YtkfejcffacbngaaQA

namespace Go.Proofs.Ytkfejcffacbngaa.J

open Go Go.Sym

set_option linter.unusedVariables false

/-- a number with its sign, in the document's words -/
def unfD (u : Int) : Int := if binI .rem .u64 u 2 = 0 then IntKind.i64.wrap (binI .quo .u64 u 2) else binI .sub .i64 (binI .sub .i64 0 (IntKind.i64.wrap (binI .quo .u64 u 2))) 1

theorem unfD_M {u : Int} (h : 0 ≤ u) : unfD u = unfM u := by
  have hr : binI .rem .u64 u 2 = u % 2 := by show u.tmod 2 = u % 2; rw [Int.tmod_eq_emod_of_nonneg h]
  unfold unfD unfM
  rw [hr]
  by_cases h0 : u % 2 = 0
  · rw [if_pos h0, if_neg (by omega)]
  · rw [if_neg h0, if_pos (by omega)]

def g112 : List (List Int) → List Int
  | [[u]] => [unfD u]
  | _ => []

noncomputable def FNw : Nat → List (List Int) → List Int
  | 112, l => g112 l
  | i, l => FNv i l

theorem FNw_83 (b : List Int) (a : Int) : FNw 83 [b, [a]] = [if (lebR b a).1 = 0 then lebU b a (lebR b a).2 else 0] := rfl
theorem FNw_84 (b : List Int) (a : Int) : FNw 84 [b, [a]] = [if (lebR b a).1 = 0 then a + (lebR b a).2 else 0] := rfl
theorem FNw_85 (b : List Int) (a : Int) : FNw 85 [b, [a]] = [(lebR b a).1] := rfl
theorem FNw_102 (b zs : List Int) : FNw 102 [b, zs] = b ++ putS (runsL zs) := rfl
theorem FNw_104 : FNw 104 [] = [1] := rfl
theorem FNw_106 (b : List Int) (a n : Int) : FNw 106 [b, [a], [n]] = (getM b a n).1 := rfl
theorem FNw_107 (b : List Int) (a n : Int) : FNw 107 [b, [a], [n]] = [(getM b a n).2.1] := rfl
theorem FNw_108 (b : List Int) (a n : Int) : FNw 108 [b, [a], [n]] = [(getM b a n).2.2] := rfl
theorem FNw_110 (a b : List Int) : FNw 110 [a, b] = [if a = b then 1 else 0] := rfl
theorem FNw_111 {b l : List Int} (h : bytes8 b) : FNw 111 [b, l] = [1] := FNv_111 (l := l) h
theorem FNw_111' {b l m : List Int} (h : bytes8 b) : FNw 111 [b, l, m] = [1] := FNv_111' (l := l) (m := m) h
theorem FNw_112 (u : Int) : FNw 112 [[u]] = [unfD u] := rfl

theorem v_w {c : Pc} (h : PcOk Try.prog FNv c) (h1 : ∀ i, i < c.rks.length → c.id + i ≠ 112) (h2 : ∀ i, i ∈ c.pre → i ≠ 112) : PcOk Try.prog FNw c := by
  have e : ∀ j, j ≠ 112 → FNv j = FNw j := fun j hj => by
    funext l
    unfold FNw
    split <;> first | omega | rfl
  exact h.cong (fun i hi => (e _ (h1 i hi)).symm) (fun i hi => (e _ (h2 i hi)).symm)

def pcUnfR : Pc := ⟨84, [.int .u64], [.int .i64], 112, [], []⟩
def pcRGetR : Pc := ⟨25, [.sl [.u8], .int .i64, .int .i64], [.sl 2 [.i64], .int .i64, .int .i64], 106, [(0, 0, 4294967296)], [111]⟩

theorem unfR_entry : entryK Try.prog [] 50 200 84 [] 1 (argSVs 0 pcUnfR.aks) 30 [] = some [([(.cmp .eql (.bin .rem .u64 (.var 0) (.lit 2)) (.lit 0), true)], .ret (.sint .i64 (.wrap .i64 (.bin .quo .u64 (.var 0) (.lit 2)))) ⟨0, .nil⟩), ([(.cmp .eql (.bin .rem .u64 (.var 0) (.lit 2)) (.lit 0), false)], .ret (.sint .i64 (.bin .sub .i64 (.bin .sub .i64 (.lit 0) (.wrap .i64 (.bin .quo .u64 (.var 0) (.lit 2)))) (.lit 1))) ⟨0, .nil⟩)] := by kernel_rfl

abbrev preA (a : IE) : BE × Bool := (.cmp .eql (.app 111 (gA a)) (.lit 1), true)
abbrev pA : List Nat := [0, 0, 1, 1, 1, 1]
abbrev pI : List Nat := [0, 1, 0, 1, 1, 1, 1, 1, 1, 1, 0, 1, 0, 0, 0, 1, 1, 1, 1]
abbrev asR0 : As := [preA (.var 3), preA nextE] ++ asB0
abbrev sl0I : SV := .slice 0 0 0 0
abbrev blkZ : Nat × Blk := (0, ⟨2, 0, [], .nil, false, none⟩)
abbrev slI : List (Nat × SV) := [(0, .rsl (.ro 0 [.u8]) (.lit 0) lB 1), (1, .sint .i64 (.var 3)), (2, .sint .i64 (.var 2)), (6, .nilslice), (7, .int .i64 0), (8, .int .i64 0), (10, .bool false), (14, .sint .u64 (.var 6)), (15, .sint .i64 (.var 7))]

abbrev cutR : Cuts := [
  (pA, ⟨87, slG ++ [(9, sl0I), (10, .bool false)], [blkZ], 1, asR0⟩),
  (pA, ⟨87, slG ++ [(9, rowI), (10, .bool false)], [blkI], 1, asR0 ++ asC0⟩),
  (pA, ⟨87, slG ++ [(9, rowI), (10, .bool true)], [blkI], 1, asR0 ++ asC0⟩),
  (pI, ⟨87, slI ++ [(9, sl0I), (17, .int .u64 0)], [blkZ], 1, asB0 ++ [(nonneg (.var 6), true)]⟩),
  (pI, ⟨87, slI ++ [(9, rowI), (17, .sint .u64 (.var 8))], [blkI], 1, asB0 ++ asC0⟩)]

abbrev knR2 : Kn := [pcLebGR.ct, pcUnfR.ct]

theorem rgetR_entry : entryK Try.prog knR2 1 400 25 cutR 3 (argSVs 0 pcRGetR.aks) 14 [(atmB lB (.lit 4294967296), true), preA (.var 1)] = some [([(.cmp .lss (.var 1) (.lit 0), true), (.not (.cmp .lss (.lit 4294967296) (.rlen (.rvar 0) 1)), true), (.cmp .eql (.app 111 (.acons (.rvar 0) (.acons (.rcons (.var 1) .rnil) .anil))) (.lit 1), true)], .ret (.tuple [.nilslice, .int .i64 0, .int .i64 11]) ⟨0, .nil⟩), ([(.cmp .lss (.rlen (.rvar 0) 1) (.var 1), true), (.cmp .lss (.var 1) (.lit 0), false), (.not (.cmp .lss (.lit 4294967296) (.rlen (.rvar 0) 1)), true), (.cmp .eql (.app 111 (.acons (.rvar 0) (.acons (.rcons (.var 1) .rnil) .anil))) (.lit 1), true)], .ret (.tuple [.nilslice, .int .i64 0, .int .i64 11]) ⟨0, .nil⟩), ([(.cmp .lss (.var 2) (.lit 0), true), (.cmp .lss (.rlen (.rvar 0) 1) (.var 1), false), (.cmp .lss (.var 1) (.lit 0), false), (.not (.cmp .lss (.lit 4294967296) (.rlen (.rvar 0) 1)), true), (.cmp .eql (.app 111 (.acons (.rvar 0) (.acons (.rcons (.var 1) .rnil) .anil))) (.lit 1), true)], .ret (.tuple [.nilslice, .int .i64 0, .int .i64 11]) ⟨0, .nil⟩), ([(.cmp .lss (.lit 1048576) (.var 2), true), (.cmp .lss (.var 2) (.lit 0), false), (.cmp .lss (.rlen (.rvar 0) 1) (.var 1), false), (.cmp .lss (.var 1) (.lit 0), false), (.not (.cmp .lss (.lit 4294967296) (.rlen (.rvar 0) 1)), true), (.cmp .eql (.app 111 (.acons (.rvar 0) (.acons (.rcons (.var 1) .rnil) .anil))) (.lit 1), true)], .ret (.tuple [.nilslice, .int .i64 0, .int .i64 11]) ⟨0, .nil⟩), ([(.cmp .lss (.lit 1048576) (.var 2), false), (.cmp .lss (.var 2) (.lit 0), false), (.cmp .lss (.rlen (.rvar 0) 1) (.var 1), false), (.cmp .lss (.var 1) (.lit 0), false), (.not (.cmp .lss (.lit 4294967296) (.rlen (.rvar 0) 1)), true), (.cmp .eql (.app 111 (.acons (.rvar 0) (.acons (.rcons (.var 1) .rnil) .anil))) (.lit 1), true)], .cut 0 ⟨[(3, .var 1)], [], [], [(0, 0)]⟩)] := by kernel_rfl

theorem rgetR_rounds : roundsK Try.prog knR2 1 400 25 cutR 3 14 cutR = some [[([(.cmp .lss (.lit 0) (.app 83 (.acons (.rvar 0) (.acons (.rcons (.var 3) .rnil) .anil))), true), (.cmp .eql (.app 85 (.acons (.rvar 0) (.acons (.rcons (.var 3) .rnil) .anil))) (.lit 0), true), (.cmp .lss (.lit 0) (.var 2), true), (.cmp .eql (.app 111 (.acons (.rvar 0) (.acons (.rcons (.var 3) .rnil) .anil))) (.lit 1), true), (.cmp .eql (.app 111 (.acons (.rvar 0) (.acons (.rcons (.app 84 (.acons (.rvar 0) (.acons (.rcons (.var 3) .rnil) .anil))) .rnil) .anil))) (.lit 1), true), (.not (.cmp .lss (.lit 4294967296) (.rlen (.rvar 0) 1)), true), (.cmp .lss (.var 2) (.lit 0), false), (.cmp .lss (.lit 1048576) (.var 2), false)], .cut 1 ⟨[(5, .lit 1), (3, .app 84 (.acons (.rvar 0) (.acons (.rcons (.var 3) .rnil) .anil)))], [(4, .rcons (.app 112 (.acons (.rcons (.app 83 (.acons (.rvar 0) (.acons (.rcons (.var 3) .rnil) .anil))) .rnil) .anil)) .rnil)], [], [(0, 2)]⟩), ([(.cmp .lss (.wrap .u64 (.bin .sub .i64 (.bin .sub .i64 (.var 2) (.lit 0)) (.lit 1))) (.app 83 (.acons (.rvar 0) (.acons (.rcons (.app 84 (.acons (.rvar 0) (.acons (.rcons (.var 3) .rnil) .anil))) .rnil) .anil))), true), (.cmp .eql (.app 85 (.acons (.rvar 0) (.acons (.rcons (.app 84 (.acons (.rvar 0) (.acons (.rcons (.var 3) .rnil) .anil))) .rnil) .anil))) (.lit 0), true), (.cmp .lss (.lit 0) (.app 83 (.acons (.rvar 0) (.acons (.rcons (.var 3) .rnil) .anil))), false), (.cmp .eql (.app 85 (.acons (.rvar 0) (.acons (.rcons (.var 3) .rnil) .anil))) (.lit 0), true), (.cmp .lss (.lit 0) (.var 2), true), (.cmp .eql (.app 111 (.acons (.rvar 0) (.acons (.rcons (.var 3) .rnil) .anil))) (.lit 1), true), (.cmp .eql (.app 111 (.acons (.rvar 0) (.acons (.rcons (.app 84 (.acons (.rvar 0) (.acons (.rcons (.var 3) .rnil) .anil))) .rnil) .anil))) (.lit 1), true), (.not (.cmp .lss (.lit 4294967296) (.rlen (.rvar 0) 1)), true), (.cmp .lss (.var 2) (.lit 0), false), (.cmp .lss (.lit 1048576) (.var 2), false)], .ret (.tuple [.nilslice, .int .i64 0, .int .i64 13]) ⟨0, .nil⟩), ([(.cmp .lss (.wrap .u64 (.bin .sub .i64 (.bin .sub .i64 (.var 2) (.lit 0)) (.lit 1))) (.app 83 (.acons (.rvar 0) (.acons (.rcons (.app 84 (.acons (.rvar 0) (.acons (.rcons (.var 3) .rnil) .anil))) .rnil) .anil))), false), (.cmp .eql (.app 85 (.acons (.rvar 0) (.acons (.rcons (.app 84 (.acons (.rvar 0) (.acons (.rcons (.var 3) .rnil) .anil))) .rnil) .anil))) (.lit 0), true), (.cmp .lss (.lit 0) (.app 83 (.acons (.rvar 0) (.acons (.rcons (.var 3) .rnil) .anil))), false), (.cmp .eql (.app 85 (.acons (.rvar 0) (.acons (.rcons (.var 3) .rnil) .anil))) (.lit 0), true), (.cmp .lss (.lit 0) (.var 2), true), (.cmp .eql (.app 111 (.acons (.rvar 0) (.acons (.rcons (.var 3) .rnil) .anil))) (.lit 1), true), (.cmp .eql (.app 111 (.acons (.rvar 0) (.acons (.rcons (.app 84 (.acons (.rvar 0) (.acons (.rcons (.var 3) .rnil) .anil))) .rnil) .anil))) (.lit 1), true), (.not (.cmp .lss (.lit 4294967296) (.rlen (.rvar 0) 1)), true), (.cmp .lss (.var 2) (.lit 0), false), (.cmp .lss (.lit 1048576) (.var 2), false)], .cut 3 ⟨[(7, .app 84 (.acons (.rvar 0) (.acons (.rcons (.app 84 (.acons (.rvar 0) (.acons (.rcons (.var 3) .rnil) .anil))) .rnil) .anil))), (6, .app 83 (.acons (.rvar 0) (.acons (.rcons (.app 84 (.acons (.rvar 0) (.acons (.rcons (.var 3) .rnil) .anil))) .rnil) .anil))), (3, .var 3)], [], [], [(0, 0)]⟩), ([(.cmp .eql (.app 85 (.acons (.rvar 0) (.acons (.rcons (.app 84 (.acons (.rvar 0) (.acons (.rcons (.var 3) .rnil) .anil))) .rnil) .anil))) (.lit 0), false), (.cmp .lss (.lit 0) (.app 83 (.acons (.rvar 0) (.acons (.rcons (.var 3) .rnil) .anil))), false), (.cmp .eql (.app 85 (.acons (.rvar 0) (.acons (.rcons (.var 3) .rnil) .anil))) (.lit 0), true), (.cmp .lss (.lit 0) (.var 2), true), (.cmp .eql (.app 111 (.acons (.rvar 0) (.acons (.rcons (.var 3) .rnil) .anil))) (.lit 1), true), (.cmp .eql (.app 111 (.acons (.rvar 0) (.acons (.rcons (.app 84 (.acons (.rvar 0) (.acons (.rcons (.var 3) .rnil) .anil))) .rnil) .anil))) (.lit 1), true), (.not (.cmp .lss (.lit 4294967296) (.rlen (.rvar 0) 1)), true), (.cmp .lss (.var 2) (.lit 0), false), (.cmp .lss (.lit 1048576) (.var 2), false)], .ret (.tuple [.nilslice, .int .i64 0, .sint .i64 (.app 85 (.acons (.rvar 0) (.acons (.rcons (.app 84 (.acons (.rvar 0) (.acons (.rcons (.var 3) .rnil) .anil))) .rnil) .anil)))]) ⟨0, .nil⟩), ([(.cmp .eql (.app 85 (.acons (.rvar 0) (.acons (.rcons (.var 3) .rnil) .anil))) (.lit 0), false), (.cmp .lss (.lit 0) (.var 2), true), (.cmp .eql (.app 111 (.acons (.rvar 0) (.acons (.rcons (.var 3) .rnil) .anil))) (.lit 1), true), (.cmp .eql (.app 111 (.acons (.rvar 0) (.acons (.rcons (.app 84 (.acons (.rvar 0) (.acons (.rcons (.var 3) .rnil) .anil))) .rnil) .anil))) (.lit 1), true), (.not (.cmp .lss (.lit 4294967296) (.rlen (.rvar 0) 1)), true), (.cmp .lss (.var 2) (.lit 0), false), (.cmp .lss (.lit 1048576) (.var 2), false)], .ret (.tuple [.nilslice, .int .i64 0, .sint .i64 (.app 85 (.acons (.rvar 0) (.acons (.rcons (.var 3) .rnil) .anil)))]) ⟨0, .nil⟩), ([(.cmp .lss (.lit 0) (.var 2), false), (.cmp .eql (.app 111 (.acons (.rvar 0) (.acons (.rcons (.var 3) .rnil) .anil))) (.lit 1), true), (.cmp .eql (.app 111 (.acons (.rvar 0) (.acons (.rcons (.app 84 (.acons (.rvar 0) (.acons (.rcons (.var 3) .rnil) .anil))) .rnil) .anil))) (.lit 1), true), (.not (.cmp .lss (.lit 4294967296) (.rlen (.rvar 0) 1)), true), (.cmp .lss (.var 2) (.lit 0), false), (.cmp .lss (.lit 1048576) (.var 2), false)], .ret (.tuple [.slice 0 0 0 0, .sint .i64 (.var 3), .int .i64 0]) ⟨1, (.node (some ⟨2, 0, [], .nil, false, none⟩) .nil .nil)⟩)], [([(.cmp .lss (.lit 0) (.app 83 (.acons (.rvar 0) (.acons (.rcons (.var 3) .rnil) .anil))), true), (.cmp .eql (.app 85 (.acons (.rvar 0) (.acons (.rcons (.var 3) .rnil) .anil))) (.lit 0), true), (.cmp .lss (.var 5) (.var 2), true), (.cmp .eql (.app 111 (.acons (.rvar 0) (.acons (.rcons (.var 3) .rnil) .anil))) (.lit 1), true), (.cmp .eql (.app 111 (.acons (.rvar 0) (.acons (.rcons (.app 84 (.acons (.rvar 0) (.acons (.rcons (.var 3) .rnil) .anil))) .rnil) .anil))) (.lit 1), true), (.not (.cmp .lss (.lit 4294967296) (.rlen (.rvar 0) 1)), true), (.cmp .lss (.var 2) (.lit 0), false), (.cmp .lss (.lit 1048576) (.var 2), false), (.not (.cmp .lss (.var 5) (.lit 0)), true), (.not (.cmp .lss (.var 2) (.var 5)), true), (.not (.cmp .lss (.lit 1048576) (.var 5)), true), (.cmp .lss (.lit 17592186044416) (.plus (.var 5) (.lit 1)), false)], .cut 1 ⟨[(5, .plus (.var 5) (.lit 1)), (3, .app 84 (.acons (.rvar 0) (.acons (.rcons (.var 3) .rnil) .anil)))], [(4, .cat (.rvar 4) (.rcons (.app 112 (.acons (.rcons (.app 83 (.acons (.rvar 0) (.acons (.rcons (.var 3) .rnil) .anil))) .rnil) .anil)) .rnil))], [], [(0, 2)]⟩), ([(.cmp .lss (.wrap .u64 (.bin .sub .i64 (.bin .sub .i64 (.var 2) (.var 5)) (.lit 1))) (.app 83 (.acons (.rvar 0) (.acons (.rcons (.app 84 (.acons (.rvar 0) (.acons (.rcons (.var 3) .rnil) .anil))) .rnil) .anil))), true), (.cmp .eql (.app 85 (.acons (.rvar 0) (.acons (.rcons (.app 84 (.acons (.rvar 0) (.acons (.rcons (.var 3) .rnil) .anil))) .rnil) .anil))) (.lit 0), true), (.cmp .lss (.lit 0) (.app 83 (.acons (.rvar 0) (.acons (.rcons (.var 3) .rnil) .anil))), false), (.cmp .eql (.app 85 (.acons (.rvar 0) (.acons (.rcons (.var 3) .rnil) .anil))) (.lit 0), true), (.cmp .lss (.var 5) (.var 2), true), (.cmp .eql (.app 111 (.acons (.rvar 0) (.acons (.rcons (.var 3) .rnil) .anil))) (.lit 1), true), (.cmp .eql (.app 111 (.acons (.rvar 0) (.acons (.rcons (.app 84 (.acons (.rvar 0) (.acons (.rcons (.var 3) .rnil) .anil))) .rnil) .anil))) (.lit 1), true), (.not (.cmp .lss (.lit 4294967296) (.rlen (.rvar 0) 1)), true), (.cmp .lss (.var 2) (.lit 0), false), (.cmp .lss (.lit 1048576) (.var 2), false), (.not (.cmp .lss (.var 5) (.lit 0)), true), (.not (.cmp .lss (.var 2) (.var 5)), true), (.not (.cmp .lss (.lit 1048576) (.var 5)), true), (.cmp .lss (.lit 17592186044416) (.plus (.var 5) (.lit 1)), false)], .ret (.tuple [.nilslice, .int .i64 0, .int .i64 13]) ⟨0, .nil⟩), ([(.cmp .lss (.wrap .u64 (.bin .sub .i64 (.bin .sub .i64 (.var 2) (.var 5)) (.lit 1))) (.app 83 (.acons (.rvar 0) (.acons (.rcons (.app 84 (.acons (.rvar 0) (.acons (.rcons (.var 3) .rnil) .anil))) .rnil) .anil))), false), (.cmp .eql (.app 85 (.acons (.rvar 0) (.acons (.rcons (.app 84 (.acons (.rvar 0) (.acons (.rcons (.var 3) .rnil) .anil))) .rnil) .anil))) (.lit 0), true), (.cmp .lss (.lit 0) (.app 83 (.acons (.rvar 0) (.acons (.rcons (.var 3) .rnil) .anil))), false), (.cmp .eql (.app 85 (.acons (.rvar 0) (.acons (.rcons (.var 3) .rnil) .anil))) (.lit 0), true), (.cmp .lss (.var 5) (.var 2), true), (.cmp .eql (.app 111 (.acons (.rvar 0) (.acons (.rcons (.var 3) .rnil) .anil))) (.lit 1), true), (.cmp .eql (.app 111 (.acons (.rvar 0) (.acons (.rcons (.app 84 (.acons (.rvar 0) (.acons (.rcons (.var 3) .rnil) .anil))) .rnil) .anil))) (.lit 1), true), (.not (.cmp .lss (.lit 4294967296) (.rlen (.rvar 0) 1)), true), (.cmp .lss (.var 2) (.lit 0), false), (.cmp .lss (.lit 1048576) (.var 2), false), (.not (.cmp .lss (.var 5) (.lit 0)), true), (.not (.cmp .lss (.var 2) (.var 5)), true), (.not (.cmp .lss (.lit 1048576) (.var 5)), true), (.cmp .lss (.lit 17592186044416) (.plus (.var 5) (.lit 1)), false)], .cut 4 ⟨[(8, .lit 0), (5, .var 5), (7, .app 84 (.acons (.rvar 0) (.acons (.rcons (.app 84 (.acons (.rvar 0) (.acons (.rcons (.var 3) .rnil) .anil))) .rnil) .anil))), (6, .app 83 (.acons (.rvar 0) (.acons (.rcons (.app 84 (.acons (.rvar 0) (.acons (.rcons (.var 3) .rnil) .anil))) .rnil) .anil))), (3, .var 3)], [(4, .rvar 4)], [], [(0, 0)]⟩), ([(.cmp .eql (.app 85 (.acons (.rvar 0) (.acons (.rcons (.app 84 (.acons (.rvar 0) (.acons (.rcons (.var 3) .rnil) .anil))) .rnil) .anil))) (.lit 0), false), (.cmp .lss (.lit 0) (.app 83 (.acons (.rvar 0) (.acons (.rcons (.var 3) .rnil) .anil))), false), (.cmp .eql (.app 85 (.acons (.rvar 0) (.acons (.rcons (.var 3) .rnil) .anil))) (.lit 0), true), (.cmp .lss (.var 5) (.var 2), true), (.cmp .eql (.app 111 (.acons (.rvar 0) (.acons (.rcons (.var 3) .rnil) .anil))) (.lit 1), true), (.cmp .eql (.app 111 (.acons (.rvar 0) (.acons (.rcons (.app 84 (.acons (.rvar 0) (.acons (.rcons (.var 3) .rnil) .anil))) .rnil) .anil))) (.lit 1), true), (.not (.cmp .lss (.lit 4294967296) (.rlen (.rvar 0) 1)), true), (.cmp .lss (.var 2) (.lit 0), false), (.cmp .lss (.lit 1048576) (.var 2), false), (.not (.cmp .lss (.var 5) (.lit 0)), true), (.not (.cmp .lss (.var 2) (.var 5)), true), (.not (.cmp .lss (.lit 1048576) (.var 5)), true), (.cmp .lss (.lit 17592186044416) (.plus (.var 5) (.lit 1)), false)], .ret (.tuple [.nilslice, .int .i64 0, .sint .i64 (.app 85 (.acons (.rvar 0) (.acons (.rcons (.app 84 (.acons (.rvar 0) (.acons (.rcons (.var 3) .rnil) .anil))) .rnil) .anil)))]) ⟨0, .nil⟩), ([(.cmp .eql (.app 85 (.acons (.rvar 0) (.acons (.rcons (.var 3) .rnil) .anil))) (.lit 0), false), (.cmp .lss (.var 5) (.var 2), true), (.cmp .eql (.app 111 (.acons (.rvar 0) (.acons (.rcons (.var 3) .rnil) .anil))) (.lit 1), true), (.cmp .eql (.app 111 (.acons (.rvar 0) (.acons (.rcons (.app 84 (.acons (.rvar 0) (.acons (.rcons (.var 3) .rnil) .anil))) .rnil) .anil))) (.lit 1), true), (.not (.cmp .lss (.lit 4294967296) (.rlen (.rvar 0) 1)), true), (.cmp .lss (.var 2) (.lit 0), false), (.cmp .lss (.lit 1048576) (.var 2), false), (.not (.cmp .lss (.var 5) (.lit 0)), true), (.not (.cmp .lss (.var 2) (.var 5)), true), (.not (.cmp .lss (.lit 1048576) (.var 5)), true), (.cmp .lss (.lit 17592186044416) (.plus (.var 5) (.lit 1)), false)], .ret (.tuple [.nilslice, .int .i64 0, .sint .i64 (.app 85 (.acons (.rvar 0) (.acons (.rcons (.var 3) .rnil) .anil)))]) ⟨0, .nil⟩), ([(.cmp .lss (.var 5) (.var 2), false), (.cmp .eql (.app 111 (.acons (.rvar 0) (.acons (.rcons (.var 3) .rnil) .anil))) (.lit 1), true), (.cmp .eql (.app 111 (.acons (.rvar 0) (.acons (.rcons (.app 84 (.acons (.rvar 0) (.acons (.rcons (.var 3) .rnil) .anil))) .rnil) .anil))) (.lit 1), true), (.not (.cmp .lss (.lit 4294967296) (.rlen (.rvar 0) 1)), true), (.cmp .lss (.var 2) (.lit 0), false), (.cmp .lss (.lit 1048576) (.var 2), false), (.not (.cmp .lss (.var 5) (.lit 0)), true), (.not (.cmp .lss (.var 2) (.var 5)), true), (.not (.cmp .lss (.lit 1048576) (.var 5)), true), (.cmp .lss (.lit 17592186044416) (.plus (.var 5) (.lit 1)), false)], .ret (.tuple [.rsl (.own 0) (.lit 0) (.var 5) 1, .sint .i64 (.var 3), .int .i64 0]) ⟨1, (.node (some ⟨2, 0, [], .nil, true, (some (.rvar 4, (.var 5, [.i64])))⟩) .nil .nil)⟩)], [([(.cmp .lss (.lit 0) (.app 83 (.acons (.rvar 0) (.acons (.rcons (.var 3) .rnil) .anil))), true), (.cmp .eql (.app 85 (.acons (.rvar 0) (.acons (.rcons (.var 3) .rnil) .anil))) (.lit 0), true), (.cmp .lss (.var 5) (.var 2), true), (.cmp .eql (.app 111 (.acons (.rvar 0) (.acons (.rcons (.var 3) .rnil) .anil))) (.lit 1), true), (.cmp .eql (.app 111 (.acons (.rvar 0) (.acons (.rcons (.app 84 (.acons (.rvar 0) (.acons (.rcons (.var 3) .rnil) .anil))) .rnil) .anil))) (.lit 1), true), (.not (.cmp .lss (.lit 4294967296) (.rlen (.rvar 0) 1)), true), (.cmp .lss (.var 2) (.lit 0), false), (.cmp .lss (.lit 1048576) (.var 2), false), (.not (.cmp .lss (.var 5) (.lit 0)), true), (.not (.cmp .lss (.var 2) (.var 5)), true), (.not (.cmp .lss (.lit 1048576) (.var 5)), true), (.cmp .lss (.lit 17592186044416) (.plus (.var 5) (.lit 1)), false)], .cut 1 ⟨[(5, .plus (.var 5) (.lit 1)), (3, .app 84 (.acons (.rvar 0) (.acons (.rcons (.var 3) .rnil) .anil)))], [(4, .cat (.rvar 4) (.rcons (.app 112 (.acons (.rcons (.app 83 (.acons (.rvar 0) (.acons (.rcons (.var 3) .rnil) .anil))) .rnil) .anil)) .rnil))], [], [(0, 2)]⟩), ([(.cmp .lss (.lit 0) (.app 83 (.acons (.rvar 0) (.acons (.rcons (.var 3) .rnil) .anil))), false), (.cmp .eql (.app 85 (.acons (.rvar 0) (.acons (.rcons (.var 3) .rnil) .anil))) (.lit 0), true), (.cmp .lss (.var 5) (.var 2), true), (.cmp .eql (.app 111 (.acons (.rvar 0) (.acons (.rcons (.var 3) .rnil) .anil))) (.lit 1), true), (.cmp .eql (.app 111 (.acons (.rvar 0) (.acons (.rcons (.app 84 (.acons (.rvar 0) (.acons (.rcons (.var 3) .rnil) .anil))) .rnil) .anil))) (.lit 1), true), (.not (.cmp .lss (.lit 4294967296) (.rlen (.rvar 0) 1)), true), (.cmp .lss (.var 2) (.lit 0), false), (.cmp .lss (.lit 1048576) (.var 2), false), (.not (.cmp .lss (.var 5) (.lit 0)), true), (.not (.cmp .lss (.var 2) (.var 5)), true), (.not (.cmp .lss (.lit 1048576) (.var 5)), true), (.cmp .lss (.lit 17592186044416) (.plus (.var 5) (.lit 1)), false)], .ret (.tuple [.nilslice, .int .i64 0, .int .i64 13]) ⟨0, .nil⟩), ([(.cmp .eql (.app 85 (.acons (.rvar 0) (.acons (.rcons (.var 3) .rnil) .anil))) (.lit 0), false), (.cmp .lss (.var 5) (.var 2), true), (.cmp .eql (.app 111 (.acons (.rvar 0) (.acons (.rcons (.var 3) .rnil) .anil))) (.lit 1), true), (.cmp .eql (.app 111 (.acons (.rvar 0) (.acons (.rcons (.app 84 (.acons (.rvar 0) (.acons (.rcons (.var 3) .rnil) .anil))) .rnil) .anil))) (.lit 1), true), (.not (.cmp .lss (.lit 4294967296) (.rlen (.rvar 0) 1)), true), (.cmp .lss (.var 2) (.lit 0), false), (.cmp .lss (.lit 1048576) (.var 2), false), (.not (.cmp .lss (.var 5) (.lit 0)), true), (.not (.cmp .lss (.var 2) (.var 5)), true), (.not (.cmp .lss (.lit 1048576) (.var 5)), true), (.cmp .lss (.lit 17592186044416) (.plus (.var 5) (.lit 1)), false)], .ret (.tuple [.nilslice, .int .i64 0, .sint .i64 (.app 85 (.acons (.rvar 0) (.acons (.rcons (.var 3) .rnil) .anil)))]) ⟨0, .nil⟩), ([(.cmp .lss (.var 5) (.var 2), false), (.cmp .eql (.app 111 (.acons (.rvar 0) (.acons (.rcons (.var 3) .rnil) .anil))) (.lit 1), true), (.cmp .eql (.app 111 (.acons (.rvar 0) (.acons (.rcons (.app 84 (.acons (.rvar 0) (.acons (.rcons (.var 3) .rnil) .anil))) .rnil) .anil))) (.lit 1), true), (.not (.cmp .lss (.lit 4294967296) (.rlen (.rvar 0) 1)), true), (.cmp .lss (.var 2) (.lit 0), false), (.cmp .lss (.lit 1048576) (.var 2), false), (.not (.cmp .lss (.var 5) (.lit 0)), true), (.not (.cmp .lss (.var 2) (.var 5)), true), (.not (.cmp .lss (.lit 1048576) (.var 5)), true), (.cmp .lss (.lit 17592186044416) (.plus (.var 5) (.lit 1)), false)], .ret (.tuple [.rsl (.own 0) (.lit 0) (.var 5) 1, .sint .i64 (.var 3), .int .i64 0]) ⟨1, (.node (some ⟨2, 0, [], .nil, true, (some (.rvar 4, (.var 5, [.i64])))⟩) .nil .nil)⟩)], [([(.not (.cmp .lss (.lit 4294967296) (.rlen (.rvar 0) 1)), true), (.cmp .lss (.var 2) (.lit 0), false), (.cmp .lss (.lit 1048576) (.var 2), false), (.not (.cmp .lss (.var 6) (.lit 0)), true)], .cut 4 ⟨[(8, .lit 1), (5, .lit 1), (7, .var 7), (6, .var 6), (3, .var 3)], [(4, .rcons (.lit 0) .rnil)], [], [(0, 2)]⟩)], [([(.cmp .lss (.var 6) (.var 8), true), (.not (.cmp .lss (.lit 4294967296) (.rlen (.rvar 0) 1)), true), (.cmp .lss (.var 2) (.lit 0), false), (.cmp .lss (.lit 1048576) (.var 2), false), (.not (.cmp .lss (.var 5) (.lit 0)), true), (.not (.cmp .lss (.var 2) (.var 5)), true), (.not (.cmp .lss (.lit 1048576) (.var 5)), true), (.cmp .lss (.lit 17592186044416) (.plus (.var 5) (.lit 1)), false)], .cut 2 ⟨[(5, .var 5), (3, .var 7)], [(4, .rvar 4)], [], [(0, 0)]⟩), ([(.cmp .lss (.var 6) (.var 8), false), (.not (.cmp .lss (.lit 4294967296) (.rlen (.rvar 0) 1)), true), (.cmp .lss (.var 2) (.lit 0), false), (.cmp .lss (.lit 1048576) (.var 2), false), (.not (.cmp .lss (.var 5) (.lit 0)), true), (.not (.cmp .lss (.var 2) (.var 5)), true), (.not (.cmp .lss (.lit 1048576) (.var 5)), true), (.cmp .lss (.lit 17592186044416) (.plus (.var 5) (.lit 1)), false)], .cut 4 ⟨[(8, .bin .add .u64 (.var 8) (.lit 1)), (5, .plus (.var 5) (.lit 1)), (7, .var 7), (6, .var 6), (3, .var 3)], [(4, .cat (.rvar 4) (.rcons (.lit 0) .rnil))], [], [(0, 2)]⟩)]] := by kernel_rfl

end Go.Proofs.Ytkfejcffacbngaa.J


namespace Go.Proofs.Ytkfejcffacbngaa.J

open Go Go.Sym

set_option linter.unusedVariables false

/-- a weaker word for what is returned -/
def Weak (env : Env) (s s' : SV) : Prop := ∀ ρ v, Rep ρ env s v → Rep ρ env s' v

def StepW (FN : Nat → List (List Int) → List Int) (ls : List (List Int)) (id : Nat) (rks : List ResK) (Inv : Nat → Env → Prop) (μ : Nat → Env → Nat × Nat) (bound : Option (Nat × Nat)) (env : Env) (o : Out) : Prop :=
  StepG FN ls id rks Inv μ bound env o ∨ ∃ s M s', o = .ret s M ∧ Weak env s s' ∧ StepG FN ls id rks Inv μ bound env (.ret s' M)

theorem weak_e0 {env : Env} {nm off cap : Nat} {l : List SV} : Weak env (.tuple (.slice nm off 0 cap :: l)) (.tuple (.e0 :: l)) := by
  intro ρ v h
  simp only [Rep, RepL] at h ⊢
  obtain ⟨vs, rfl, v, vs', h1, ⟨b, n, h2, rfl⟩, h3⟩ := h
  exact ⟨vs, rfl, _, vs', h1, ⟨_, _, rfl⟩, h3⟩

theorem pc_floyd_w {P : Program} {FN : Nat → List (List Int) → List Int} {aa : As} (hmix : P.follows .mixedOrders = true) {kn : Kn} {n f k base : Nat} {cs : Cuts} (c : Pc) (hkn : ∀ env : Env, env.fn = FN → KnOk P env kn) (hbase : c.aks.length ≤ base) {outs : List (List Leaf)} {eouts : List Leaf}
    (hrounds : roundsK P kn n f c.f cs base k cs = some outs) (hent : entryK P kn n f c.f cs base (argSVs 0 c.aks) k aa = some eouts)
    (Inv : List (List Int) → Nat → Env → Prop) (μ : List (List Int) → Nat → Env → Nat × Nat) (hinv : ∀ ls i env, Inv ls i env → i < cs.length)
    (H : ∀ (ls : List (List Int)) (e0 : Env), e0.fn = FN → ArgsE e0 0 c.aks ls → RngOk c.aks ls c.rng → PreOk FN ls c.pre → AsOk e0 aa ∧
      (∀ env : Env, env.fn = FN → AsAll env (Inv ls) 0 cs ∧ StepAll (fun i env lf => AsOk env lf.1 → StepW FN ls c.id c.rks (Inv ls) (μ ls) (some (μ ls i env)) env lf.2) env (Inv ls) 0 outs) ∧
      allLeaves (fun lf => AsOk e0 lf.1 → StepW FN ls c.id c.rks (Inv ls) (μ ls) none e0 lf.2) eouts) : PcOk P FN c := by
  intro w vs ls hargs hrng hpre
  have h0 : ArgsE (argEnv FN c.aks vs.toList ls) 0 c.aks ls := by have := argsE_of (FN := FN) hargs c.aks 0 rfl; simpa using this
  obtain ⟨ha, h1, h2⟩ := H ls _ rfl h0 hrng hpre
  have conv0 : ∀ b env o, StepG FN ls c.id c.rks (Inv ls) (μ ls) b env o → StepGood w (fun e w' => Go.RowKit.Below w.heap.size w w' ∧ ∃ v vs', e = .returned v ∧ TupIs v vs' ∧ ResL FN ls w w' c.id c.rks vs') (Inv ls) (μ ls) b env o := by
    intro b env o h
    cases o with
    | ret s M => obtain ⟨l, hl, hr⟩ := h; exact ret_good l hl hr
    | cut j σ => exact h
    | bad => exact h
  have conv : ∀ b env o, StepW FN ls c.id c.rks (Inv ls) (μ ls) b env o → StepGood w (fun e w' => Go.RowKit.Below w.heap.size w w' ∧ ∃ v vs', e = .returned v ∧ TupIs v vs' ∧ ResL FN ls w w' c.id c.rks vs') (Inv ls) (μ ls) b env o := by
    rintro b env o (h | ⟨s, M, s', rfl, hw, h⟩)
    · exact conv0 _ _ _ h
    · have := conv0 _ _ _ h
      intro ρ w' v hr
      exact this ρ w' v (hw ρ v hr)
  refine floyd_args (n := n) (f := f) (k := k) (kn := kn) (base := base) (cs := cs) hmix hkn hbase hargs (Inv ls) (μ ls) (fun i p T hi => ?_) (fun i env => hinv ls i env) hent ha (fun lf hlf hA => conv _ _ _ (allLeaves_spec h2 lf hlf hA))
  obtain ⟨o, ho1, ho2⟩ := roundsK_spec hrounds i _ hi
  refine ⟨fun env hfn hI => ?_, o, ho2, fun env hfn hI lf hlf hA => ?_⟩
  · have := AsAll_spec (h1 env hfn).1 i p T hi
    rw [Nat.zero_add] at this
    exact this hI
  · have := StepAll_spec (h1 env hfn).2 i o ho1
    rw [Nat.zero_add] at this
    exact conv _ _ _ (allLeaves_spec (this hI) lf hlf hA)

theorem unfR_ok : PcOk Try.prog FNw pcUnfR := by
  intro w vs ls hargs hrng hpre
  refine pc_inst' mix pcUnfR (fun _ _ => knOk_nil) (by decide) unfR_entry hargs fun e0 hf ha => ⟨(fun p hp => by cases hp), ?_⟩
  simp only [pcUnfR, ArgsE, ArgE] at ha
  obtain ⟨l, _, rfl, hl, rfl⟩ := ha
  obtain ⟨u, hu⟩ : ∃ u, vInt (e0.val 0) = u := ⟨_, rfl⟩
  rw [hu] at hl
  subst hl
  simp only [allLeaves, AsOk_cons, AsOk_nil, BE.eval, cmpI, IE.eval, hu, and_true, decide_eq_true_eq, decide_eq_false_iff_not]
  refine ⟨fun hA => ⟨[_], rfl, ⟨_, rfl, ?_⟩, rfl⟩, fun hA => ⟨[_], rfl, ⟨_, rfl, ?_⟩, rfl⟩⟩
  · simp only [IE.eval, hu, pcUnfR, FNw_112, unfD, if_pos hA, List.headD_cons]
  · simp only [IE.eval, hu, pcUnfR, FNw_112, unfD, if_neg hA, List.headD_cons]

theorem lebGR_w : PcOk Try.prog FNw pcLebGR := v_w lebGR_ok (by decide) (by decide)

theorem knR2_ok : ∀ env : Env, env.fn = FNw → KnOk Try.prog env knR2 := fun env h => knOk_cons (knOk_cons knOk_nil (Pc.ct_ok h unfR_ok)) (Pc.ct_ok h lebGR_w)

theorem repL_succ (i : Nat) : repL ((i : Int) + 1) [0] = repL (i : Int) [0] ++ [0] := by
  rw [show ((i : Int) + 1) = ((i + 1 : Nat) : Int) by omega, repL_rep, repL_rep, List.replicate_succ']

def invR (ls : List (List Int)) (c : Nat) (env : Env) : Prop := ∃ (b : List Int) (a n p : Int), ls = [b, [a], [n]] ∧ (b.length : Int) ≤ 4294967296 ∧ 0 ≤ n ∧ n ≤ 1048576 ∧ bytes8 b ∧ env.row 0 = b ∧ vInt (env.val 2) = n ∧ vInt (env.val 3) = p ∧
  ((c = 0 ∧ Stands b a n p [] false) ∨ (c = 1 ∧ vInt (env.val 5) = ((env.row 4).length : Int) ∧ Stands b a n p (env.row 4) false) ∨ (c = 2 ∧ vInt (env.val 5) = ((env.row 4).length : Int) ∧ Stands b a n p (env.row 4) true) ∨
    (c = 3 ∧ 0 ≤ vInt (env.val 6) ∧ Stands b a n (vInt (env.val 7)) (repL (vInt (env.val 6) + 1) [0]) true) ∨
    (c = 4 ∧ ∃ (out : List Int) (i : Nat), vInt (env.val 8) = i ∧ (i : Int) ≤ vInt (env.val 6) + 1 ∧ vInt (env.val 5) = ((env.row 4).length : Int) ∧ env.row 4 = out ++ repL (i : Int) [0] ∧ Stands b a n (vInt (env.val 7)) (out ++ repL (vInt (env.val 6) + 1) [0]) true))

def muR (ls : List (List Int)) (c : Nat) (env : Env) : Nat × Nat := if c = 0 then (1100000, 5) else if c = 3 then (1100000, 3) else (1100000 - (vInt (env.val 5)).toNat, if c = 1 then 4 else if c = 4 then 2 else 1)

theorem retR_code {b : List Int} {a n code : Int} (h : getM b a n = ([], 0, code)) {env : Env} {o : Option (Nat × Nat)} {M : Mem} {s : SV} (hs : ∃ e, toIE s = some (IntKind.i64, e) ∧ e.eval env = code) :
    StepW FNw [b, [a], [n]] pcRGetR.id pcRGetR.rks (invR [b, [a], [n]]) (muR [b, [a], [n]]) o env (.ret (.tuple [.nilslice, .int .i64 0, s]) M) := by
  obtain ⟨e, h1, h2⟩ := hs
  refine .inl ⟨[_, _, _], rfl, ⟨by decide, _, rfl, ?_, trivial⟩, ⟨_, rfl, ?_⟩, ⟨e, h1, ?_⟩, rfl⟩
  · simp only [IE.reval, pcRGetR, FNw_106, h]
  · simp only [IE.eval, pcRGetR, Nat.reduceAdd, FNw_107, h, List.headD_cons]
  · simp only [h2, pcRGetR, Nat.reduceAdd, FNw_108, h, List.headD_cons]

theorem rowR_end {b : List Int} {a n p : Int} {env : Env} {o : Option (Nat × Nat)} (q3 : vInt (env.val 3) = p) (q5 : vInt (env.val 5) = ((env.row 4).length : Int)) (hg : getM b a n = (env.row 4, p, 0)) :
    StepW FNw [b, [a], [n]] pcRGetR.id pcRGetR.rks (invR [b, [a], [n]]) (muR [b, [a], [n]]) o env (.ret (.tuple [.rsl (.own 0) (.lit 0) (.var 5) 1, .sint .i64 (.var 3), .int .i64 0]) ⟨1, (.node (some ⟨2, 0, [], .nil, true, (some (.rvar 4, (.var 5, [.i64])))⟩) .nil .nil)⟩) := by
  refine .inl ⟨[_, _, _], rfl, ⟨by decide, _, rfl, ?_, ?_⟩, ⟨_, rfl, ?_⟩, ⟨_, rfl, ?_⟩, rfl⟩
  · rw [subE_eval (by simp only [IE.reval, IE.eval, q5]; simp)]
    simp only [IE.reval, IE.eval, q5, pcRGetR, FNw_106, hg]
    exact sub_all2 rfl
  · refine ⟨by simp only [IE.eval, q5]; omega, fun B r cnt ks' h1 h2 => ?_⟩
    obtain rfl := Option.some.inj h1
    cases h2
    exact Int.le_refl _
  · simp only [IE.eval, q3, pcRGetR, Nat.reduceAdd, FNw_107, hg, List.headD_cons]
  · simp only [IE.eval, pcRGetR, Nat.reduceAdd, FNw_108, hg, List.headD_cons]

theorem goR_on {b : List Int} {a n p' : Int} {out' : List Int} {z : Bool} {c j : Nat} {σ : Sb} {env : Env} (hst : Stands b a n p' out' z) (hj : (j = 1 ∧ z = false) ∨ (j = 2 ∧ z = true)) (h1 : (b.length : Int) ≤ 4294967296) (h2 : 0 ≤ n) (h3 : n ≤ 1048576) (hB : bytes8 b)
    (e0 : (upd env σ).row 0 = b) (e2 : vInt ((upd env σ).val 2) = n) (e3 : vInt ((upd env σ).val 3) = p') (e4 : (upd env σ).row 4 = out') (e5 : vInt ((upd env σ).val 5) = (out'.length : Int)) (hm : Prod.Lex (· < ·) (· < ·) (muR [b, [a], [n]] j (upd env σ)) (muR [b, [a], [n]] c env)) :
    StepW FNw [b, [a], [n]] pcRGetR.id pcRGetR.rks (invR [b, [a], [n]]) (muR [b, [a], [n]]) (some (muR [b, [a], [n]] c env)) env (.cut j σ) := by
  refine .inl ⟨⟨b, a, n, p', rfl, h1, h2, h3, hB, e0, e2, e3, ?_⟩, fun m hm' => ?_⟩
  · rcases hj with ⟨rfl, rfl⟩ | ⟨rfl, rfl⟩
    · exact .inr (.inl ⟨rfl, by rw [e4]; exact e5, by rw [e4]; exact hst⟩)
    · exact .inr (.inr (.inl ⟨rfl, by rw [e4]; exact e5, by rw [e4]; exact hst⟩))
  · cases hm'
    exact hm

theorem mu_1 {ls : List (List Int)} {c : Nat} {env env' : Env} {k : Nat} (hc : c = 0 ∨ ((c = 1 ∨ c = 2) ∧ vInt (env.val 5) < k ∧ 0 ≤ vInt (env.val 5))) (h : vInt (env'.val 5) = k) (h0 : 0 < k) (h1 : k ≤ 1048576) : Prod.Lex (· < ·) (· < ·) (muR ls 1 env') (muR ls c env) := by
  refine Prod.lex_def.2 (.inl ?_)
  rcases hc with rfl | ⟨rfl | rfl, hc, h5⟩
  · simp [muR, h]; omega
  · simp [muR, h]; omega
  · simp [muR, h]; omega

end Go.Proofs.Ytkfejcffacbngaa.J


namespace Go.Proofs.Ytkfejcffacbngaa.J

open Go Go.Sym

set_option linter.unusedVariables false

theorem wrap_less {n l : Int} (h0 : 0 ≤ l) (h : l < n) (h3 : n ≤ 1048576) : IntKind.u64.wrap (binI .sub .i64 (binI .sub .i64 n l) 1) = n - l - 1 := by
  have e1 : binI .sub .i64 n l = n - l := wrap_i64 (by omega)
  have e2 : binI .sub .i64 (n - l) 1 = n - l - 1 := wrap_i64 (by omega)
  rw [e1, e2]; exact wrap_u64 (by omega)

theorem Stands.le {b : List Int} {a n p : Int} {out : List Int} {z : Bool} (h : Stands b a n p out z) : (out.length : Int) ≤ n := by obtain ⟨_, _, h, _⟩ := h; exact h

set_option maxHeartbeats 4000000 in
theorem rgetR_ok : PcOk Try.prog FNw pcRGetR := by
  refine pc_floyd_w (cs := cutR) (base := 3) mix pcRGetR knR2_ok (Nat.le_refl 3) rgetR_rounds rgetR_entry invR muR (fun ls i env h => by
    obtain ⟨_, _, _, _, _, _, _, _, _, _, _, _, ⟨h, _⟩ | ⟨h, _⟩ | ⟨h, _⟩ | ⟨h, _⟩ | ⟨h, _⟩⟩ := h <;> simp <;> omega) ?_
  intro ls e0 hf hargs hrng hpre
  simp only [pcRGetR, ArgsE, ArgE] at hargs
  obtain ⟨b, _, rfl, ⟨hb, _⟩, a', _, rfl, ha, n', _, rfl, hn, rfl⟩ := hargs
  have hlen := (hrng.1 (.sl [.u8]) b rfl rfl).2
  simp only [measL, List.length_singleton, Nat.div_one] at hlen
  have hB : bytes8 b := bytes8_of' (l := a') (m := n') hpre.1
  obtain ⟨a, hav⟩ : ∃ z, vInt (e0.val 1) = z := ⟨_, rfl⟩
  obtain ⟨n, hnv⟩ : ∃ z, vInt (e0.val 2) = z := ⟨_, rfl⟩
  simp only [Nat.zero_add, Nat.reduceAdd, hav, hnv] at ha hn
  subst ha; subst hn
  refine ⟨?_, fun env hfn => ⟨⟨?_, ?_, ?_, ?_, ?_, trivial⟩, ⟨?_, ?_, ?_, ?_, ?_, trivial⟩⟩, ?_⟩
  · simp only [lB, atmB, AsOk_cons, AsOk_nil, BE.eval, cmpI, IE.eval, IE.reval, IE.aeval, hf, hb, hav, FNw_111 hB, List.headD_cons, Nat.div_one]
    simp; omega
  · rintro ⟨_, _, _, p, hl, h1, h2, h3, h4, q0, q2, q3, _⟩
    simp only [asR0, asB0, ltR, lB, atmB, List.cons_append, List.nil_append, AsOk_cons, AsOk_nil, BE.eval, cmpI, IE.eval, IE.reval, IE.aeval, hfn, q0, q2, FNw_111 h4, List.headD_cons, Nat.div_one]
    simp; omega
  · rintro ⟨_, _, _, p, hl, h1, h2, h3, h4, q0, q2, q3, ⟨h, _⟩ | ⟨_, q5, hs⟩ | ⟨h, _⟩ | ⟨h, _⟩ | ⟨h, _⟩⟩
    · cases h
    · have := hs.le
      simp only [asR0, asB0, asC0, ltR, lB, nonneg, atmB, List.cons_append, List.nil_append, AsOk_cons, AsOk_nil, BE.eval, cmpI, IE.eval, IE.reval, IE.aeval, hfn, q0, q2, q5, FNw_111 h4, List.headD_cons, Nat.div_one]
      simp; omega
    · cases h
    · cases h
    · cases h
  · rintro ⟨_, _, _, p, hl, h1, h2, h3, h4, q0, q2, q3, ⟨h, _⟩ | ⟨h, _⟩ | ⟨_, q5, hs⟩ | ⟨h, _⟩ | ⟨h, _⟩⟩
    · cases h
    · cases h
    · have := hs.le
      simp only [asR0, asB0, asC0, ltR, lB, nonneg, atmB, List.cons_append, List.nil_append, AsOk_cons, AsOk_nil, BE.eval, cmpI, IE.eval, IE.reval, IE.aeval, hfn, q0, q2, q5, FNw_111 h4, List.headD_cons, Nat.div_one]
      simp; omega
    · cases h
    · cases h
  · rintro ⟨_, _, _, p, hl, h1, h2, h3, h4, q0, q2, q3, ⟨h, _⟩ | ⟨h, _⟩ | ⟨h, _⟩ | ⟨_, q6, hs⟩ | ⟨h, _⟩⟩
    · cases h
    · cases h
    · cases h
    · simp only [asB0, ltR, lB, nonneg, atmB, List.cons_append, List.nil_append, AsOk_cons, AsOk_nil, BE.eval, cmpI, IE.eval, IE.reval, q0, q2, Nat.div_one]
      simp [h1, h2, h3]; exact decide_eq_false (by omega)
    · cases h
  · rintro ⟨_, _, _, p, hl, h1, h2, h3, h4, q0, q2, q3, ⟨h, _⟩ | ⟨h, _⟩ | ⟨h, _⟩ | ⟨h, _⟩ | ⟨_, out, i, q8, hi, q5, q4, hs⟩⟩
    · cases h
    · cases h
    · cases h
    · cases h
    · have hle := hs.le
      have r1 := repL_len (vInt (env.val 6) + 1) (by omega)
      have r2 := repL_len (i : Int) (by omega)
      have : ((env.row 4).length : Int) = out.length + i := by rw [q4, List.length_append]; omega
      rw [List.length_append] at hle
      simp only [asB0, asC0, ltR, lB, nonneg, atmB, List.cons_append, List.nil_append, AsOk_cons, AsOk_nil, BE.eval, cmpI, IE.eval, IE.reval, q0, q2, q5, Nat.div_one]
      simp; omega
  · rintro ⟨_, _, _, p, hl, h1, h2, h3, h4, q0, q2, q3, ⟨_, hs⟩ | ⟨h, _⟩ | ⟨h, _⟩ | ⟨h, _⟩ | ⟨h, _⟩⟩
    · simp only [List.cons.injEq, and_true] at hl
      obtain ⟨rfl, rfl, rfl⟩ := hl
      have hU0 := lebU_rng' b p (lebR b p).2
      have hM0 := lebU_rng' b (p + (lebR b p).2) (lebR b (p + (lebR b p).2)).2
      have end0 : getM b a n = ([], p, 0) → StepW FNw [b, [a], [n]] pcRGetR.id pcRGetR.rks (invR [b, [a], [n]]) (muR [b, [a], [n]]) (some (muR [b, [a], [n]] 0 env)) env (.ret (.tuple [.slice 0 0 0 0, .sint .i64 (.var 3), .int .i64 0]) ⟨1, .node (some ⟨2, 0, [], .nil, false, none⟩) .nil .nil⟩) := by
        intro hg
        refine .inr ⟨_, _, _, rfl, weak_e0, [_, _, _], rfl, ⟨by decide, _, rfl, ?_, trivial⟩, ⟨_, rfl, ?_⟩, ⟨_, rfl, ?_⟩, rfl⟩
        · simp only [IE.reval, pcRGetR, FNw_106, hg]
        · simp only [IE.eval, q3, pcRGetR, Nat.reduceAdd, FNw_107, hg, List.headD_cons]
        · simp only [IE.eval, pcRGetR, Nat.reduceAdd, FNw_108, hg, List.headD_cons]
      by_cases hn0 : 0 < n
      · have eS := wrap_less (l := 0) (Int.le_refl _) hn0 h3
        by_cases hE : (lebR b p).1 = 0
        · by_cases hE2 : (lebR b (p + (lebR b p).2)).1 = 0
          · simp only [allLeaves, AsOk_cons, AsOk_nil, BE.eval, cmpI, IE.eval, IE.reval, IE.aeval, hfn, q0, q2, q3, hE, hE2, if_true, FNw_83, FNw_84, FNw_85, FNw_111 h4, eS, List.headD_cons, Nat.div_one, and_true, true_and, decide_eq_true_eq, decide_eq_false_iff_not, not_true_eq_false, false_and, false_imp_iff]
            refine ⟨fun hA => ?_, fun hA => ?_, fun hA => ?_, fun hA => ?_⟩
            · exact goR_on (hs.num (by simpa using hn0) hE (by omega)) (.inl ⟨rfl, rfl⟩) h1 h2 h3 h4 (by simp [upd, lk_cons, lk_nil, q0]) (by simp [upd, lk_cons, lk_nil, q2]) (by simp [upd, lk_cons, lk_nil, IE.eval, IE.reval, IE.aeval, hfn, q0, q3, hE, FNw_84, vInt_int]) (by simp [upd, lk_cons, lk_nil, IE.eval, IE.reval, IE.aeval, hfn, q0, q3, hE, FNw_83, FNw_112, unfD_M hU0.1]) (by simp [upd, lk_cons, lk_nil, IE.eval, vInt_int]) (mu_1 (k := 1) (.inl rfl) (by simp [upd, lk_cons, lk_nil, IE.eval, vInt_int]) (by omega) (by omega))
            · exact retR_code (hs.many (by simpa using hn0) hE (by omega) hE2 (by simp; omega)) ⟨_, rfl, rfl⟩
            · have hz := hs.zeros (by simpa using hn0) hE (by omega) hE2 (by simp; omega)
              refine .inl ⟨⟨b, a, n, p, rfl, h1, h2, h3, h4, ?_, ?_, ?_, .inr (.inr (.inr (.inl ⟨rfl, ?_, ?_⟩)))⟩, fun m hm => ?_⟩
              · simp [upd, lk_nil, q0]
              · simp [upd, lk_cons, lk_nil, q2]
              · simp [upd, lk_cons, lk_nil, IE.eval, q3, vInt_int]
              · simp only [upd, lk_cons, lk_nil, Nat.reduceEqDiff, if_false, if_true, IE.eval, IE.reval, IE.aeval, hfn, q0, q3, hE, hE2, FNw_83, FNw_84, List.headD_cons, vInt_int]
                exact hM0.1
              · simpa [upd, lk_cons, lk_nil, IE.eval, IE.reval, IE.aeval, hfn, q0, q3, hE, hE2, FNw_83, FNw_84, vInt_int] using hz
              · cases hm
                exact Prod.lex_def.2 (.inr ⟨rfl, by simp [muR]⟩)
            · exfalso; omega
          · simp only [allLeaves, AsOk_cons, AsOk_nil, BE.eval, cmpI, IE.eval, IE.reval, IE.aeval, hfn, q0, q2, q3, hE, hE2, if_true, if_false, FNw_83, FNw_84, FNw_85, FNw_111 h4, eS, List.headD_cons, Nat.div_one, and_true, true_and, decide_eq_true_eq, decide_eq_false_iff_not, not_true_eq_false, not_false_eq_true, false_and, and_false, false_imp_iff]
            refine ⟨fun hA => ?_, fun hA => ?_, fun hA => ?_⟩
            · exact goR_on (hs.num (by simpa using hn0) hE (by omega)) (.inl ⟨rfl, rfl⟩) h1 h2 h3 h4 (by simp [upd, lk_cons, lk_nil, q0]) (by simp [upd, lk_cons, lk_nil, q2]) (by simp [upd, lk_cons, lk_nil, IE.eval, IE.reval, IE.aeval, hfn, q0, q3, hE, FNw_84, vInt_int]) (by simp [upd, lk_cons, lk_nil, IE.eval, IE.reval, IE.aeval, hfn, q0, q3, hE, FNw_83, FNw_112, unfD_M hU0.1]) (by simp [upd, lk_cons, lk_nil, IE.eval, vInt_int]) (mu_1 (k := 1) (.inl rfl) (by simp [upd, lk_cons, lk_nil, IE.eval, vInt_int]) (by omega) (by omega))
            · exact retR_code (hs.code2 (by simpa using hn0) hE (by omega) hE2) ⟨_, rfl, by simp only [IE.eval, IE.reval, IE.aeval, hfn, q0, q3, hE, if_true, FNw_84, FNw_85, List.headD_cons]⟩
            · exfalso; omega
        · simp only [allLeaves, AsOk_cons, AsOk_nil, BE.eval, cmpI, IE.eval, IE.reval, IE.aeval, hfn, q0, q2, q3, hE, if_false, FNw_83, FNw_84, FNw_85, FNw_111 h4, eS, List.headD_cons, Nat.div_one, and_true, true_and, decide_eq_true_eq, decide_eq_false_iff_not, not_false_eq_true, false_and, and_false, false_imp_iff]
          refine ⟨fun hA => ?_, fun hA => ?_⟩
          · exact retR_code (hs.code (by simpa using hn0) hE) ⟨_, rfl, by simp only [IE.eval, IE.reval, IE.aeval, hfn, q0, q3, FNw_85, List.headD_cons]⟩
          · exfalso; omega
      · simp only [allLeaves, AsOk_cons, AsOk_nil, BE.eval, cmpI, IE.eval, IE.reval, IE.aeval, hfn, q0, q2, q3, hn0, decide_false, Bool.false_eq_true, FNw_111 h4, List.headD_cons, Nat.div_one, and_true, true_and, decide_eq_true_eq, decide_eq_false_iff_not, false_and, and_false, false_imp_iff]
        exact fun hA => end0 (hs.done (by simpa using hn0))
    · cases h
    · cases h
    · cases h
    · cases h
  · rintro ⟨_, _, _, p, hl, h1, h2, h3, h4, q0, q2, q3, ⟨h, _⟩ | ⟨_, q5, hs⟩ | ⟨h, _⟩ | ⟨h, _⟩ | ⟨h, _⟩⟩
    · cases h
    · simp only [List.cons.injEq, and_true] at hl
      obtain ⟨rfl, rfl, rfl⟩ := hl
      obtain ⟨out, hout⟩ : ∃ o, env.row 4 = o := ⟨_, rfl⟩
      have hend := rowR_end (b := b) (a := a) (n := n) (o := some (muR [b, [a], [n]] 1 env)) q3 q5
      rw [hout] at q5 hs hend
      have hle := hs.le
      have hU0 := lebU_rng' b p (lebR b p).2
      have hM0 := lebU_rng' b (p + (lebR b p).2) (lebR b (p + (lebR b p).2)).2
      by_cases hlt : (out.length : Int) < n
      · have eS := wrap_less (l := (out.length : Int)) (by omega) hlt h3
        by_cases hE : (lebR b p).1 = 0
        · by_cases hE2 : (lebR b (p + (lebR b p).2)).1 = 0
          · simp only [allLeaves, AsOk_cons, AsOk_nil, BE.eval, cmpI, IE.eval, IE.reval, IE.aeval, hfn, q0, q2, q3, q5, hE, hE2, if_true, FNw_83, FNw_84, FNw_85, FNw_111 h4, eS, List.headD_cons, Nat.div_one, and_true, true_and, decide_eq_true_eq, decide_eq_false_iff_not, not_true_eq_false, false_and, false_imp_iff]
            refine ⟨fun hA => ?_, fun hA => ?_, fun hA => ?_, fun hA => ?_⟩
            · exact goR_on (hs.num hlt hE (by omega)) (.inl ⟨rfl, rfl⟩) h1 h2 h3 h4 (by simp [upd, lk_cons, lk_nil, q0]) (by simp [upd, lk_cons, lk_nil, q2]) (by simp [upd, lk_cons, lk_nil, IE.eval, IE.reval, IE.aeval, hfn, q0, q3, hE, FNw_84, vInt_int]) (by simp [upd, lk_cons, lk_nil, IE.eval, IE.reval, IE.aeval, hfn, q0, q3, hout, hE, FNw_83, FNw_112, unfD_M hU0.1]) (by simp [upd, lk_cons, lk_nil, IE.eval, q5, vInt_int]) (mu_1 (k := out.length + 1) (.inr ⟨.inl rfl, by rw [q5]; omega, by rw [q5]; omega⟩) (by simp [upd, lk_cons, lk_nil, IE.eval, q5, vInt_int]) (by omega) (by omega))
            · exact retR_code (hs.many hlt hE (by omega) hE2 (by omega)) ⟨_, rfl, rfl⟩
            · have hz := hs.zeros hlt hE (by omega) hE2 (by omega)
              refine .inl ⟨⟨b, a, n, p, rfl, h1, h2, h3, h4, ?_, ?_, ?_, .inr (.inr (.inr (.inr ⟨rfl, out, 0, ?_, ?_, ?_, ?_, ?_⟩)))⟩, fun m hm => ?_⟩
              · simp [upd, lk_nil, lk_cons, q0]
              · simp [upd, lk_cons, lk_nil, q2]
              · simp [upd, lk_cons, lk_nil, IE.eval, q3, vInt_int]
              · simp [upd, lk_cons, lk_nil, IE.eval, vInt_int]
              · simp only [upd, lk_cons, lk_nil, Nat.reduceEqDiff, if_false, if_true, IE.eval, IE.reval, IE.aeval, hfn, q0, q3, hE, hE2, FNw_83, FNw_84, List.headD_cons, vInt_int]
                omega
              · simp [upd, lk_cons, lk_nil, IE.eval, IE.reval, q5, hout, vInt_int]
              · simp [upd, lk_cons, lk_nil, IE.reval, hout, repL]
              · simpa [upd, lk_cons, lk_nil, IE.eval, IE.reval, IE.aeval, hfn, q0, q3, hE, hE2, FNw_83, FNw_84, vInt_int] using hz
              · cases hm
                exact Prod.lex_def.2 (.inr ⟨by simp [muR, upd, lk_cons, lk_nil, IE.eval, vInt_int], by simp [muR]⟩)
            · exfalso; omega
          · simp only [allLeaves, AsOk_cons, AsOk_nil, BE.eval, cmpI, IE.eval, IE.reval, IE.aeval, hfn, q0, q2, q3, q5, hE, hE2, if_true, if_false, FNw_83, FNw_84, FNw_85, FNw_111 h4, eS, List.headD_cons, Nat.div_one, and_true, true_and, decide_eq_true_eq, decide_eq_false_iff_not, not_true_eq_false, not_false_eq_true, false_and, and_false, false_imp_iff]
            refine ⟨fun hA => ?_, fun hA => ?_, fun hA => ?_⟩
            · exact goR_on (hs.num hlt hE (by omega)) (.inl ⟨rfl, rfl⟩) h1 h2 h3 h4 (by simp [upd, lk_cons, lk_nil, q0]) (by simp [upd, lk_cons, lk_nil, q2]) (by simp [upd, lk_cons, lk_nil, IE.eval, IE.reval, IE.aeval, hfn, q0, q3, hE, FNw_84, vInt_int]) (by simp [upd, lk_cons, lk_nil, IE.eval, IE.reval, IE.aeval, hfn, q0, q3, hout, hE, FNw_83, FNw_112, unfD_M hU0.1]) (by simp [upd, lk_cons, lk_nil, IE.eval, q5, vInt_int]) (mu_1 (k := out.length + 1) (.inr ⟨.inl rfl, by rw [q5]; omega, by rw [q5]; omega⟩) (by simp [upd, lk_cons, lk_nil, IE.eval, q5, vInt_int]) (by omega) (by omega))
            · exact retR_code (hs.code2 hlt hE (by omega) hE2) ⟨_, rfl, by simp only [IE.eval, IE.reval, IE.aeval, hfn, q0, q3, hE, if_true, FNw_84, FNw_85, List.headD_cons]⟩
            · exfalso; omega
        · simp only [allLeaves, AsOk_cons, AsOk_nil, BE.eval, cmpI, IE.eval, IE.reval, IE.aeval, hfn, q0, q2, q3, q5, hE, if_false, FNw_83, FNw_84, FNw_85, FNw_111 h4, eS, List.headD_cons, Nat.div_one, and_true, true_and, decide_eq_true_eq, decide_eq_false_iff_not, not_false_eq_true, false_and, and_false, false_imp_iff]
          refine ⟨fun hA => ?_, fun hA => ?_⟩
          · exact retR_code (hs.code hlt hE) ⟨_, rfl, by simp only [IE.eval, IE.reval, IE.aeval, hfn, q0, q3, FNw_85, List.headD_cons]⟩
          · exfalso; omega
      · simp only [allLeaves, AsOk_cons, AsOk_nil, BE.eval, cmpI, IE.eval, IE.reval, IE.aeval, hfn, q0, q2, q3, q5, hlt, decide_false, Bool.false_eq_true, FNw_83, FNw_84, FNw_85, FNw_111 h4, List.headD_cons, Nat.div_one, and_true, true_and, decide_eq_true_eq, decide_eq_false_iff_not, false_and, and_false, false_imp_iff]
        exact fun hA => hend (hs.done hlt)
    · cases h
    · cases h
    · cases h
  · rintro ⟨_, _, _, p, hl, h1, h2, h3, h4, q0, q2, q3, ⟨h, _⟩ | ⟨h, _⟩ | ⟨_, q5, hs⟩ | ⟨h, _⟩ | ⟨h, _⟩⟩
    · cases h
    · cases h
    · simp only [List.cons.injEq, and_true] at hl
      obtain ⟨rfl, rfl, rfl⟩ := hl
      obtain ⟨out, hout⟩ : ∃ o, env.row 4 = o := ⟨_, rfl⟩
      have hend := rowR_end (b := b) (a := a) (n := n) (o := some (muR [b, [a], [n]] 2 env)) q3 q5
      rw [hout] at q5 hs hend
      have hle := hs.le
      have hU0 := lebU_rng' b p (lebR b p).2
      by_cases hlt : (out.length : Int) < n
      · by_cases hE : (lebR b p).1 = 0
        · simp only [allLeaves, AsOk_cons, AsOk_nil, BE.eval, cmpI, IE.eval, IE.reval, IE.aeval, hfn, q0, q2, q3, q5, hE, if_true, FNw_83, FNw_84, FNw_85, FNw_111 h4, List.headD_cons, Nat.div_one, and_true, true_and, decide_eq_true_eq, decide_eq_false_iff_not, not_true_eq_false, false_and, false_imp_iff]
          refine ⟨fun hA => ?_, fun hA => ?_, fun hA => ?_⟩
          · exact goR_on (hs.num hlt hE (by omega)) (.inl ⟨rfl, rfl⟩) h1 h2 h3 h4 (by simp [upd, lk_cons, lk_nil, q0]) (by simp [upd, lk_cons, lk_nil, q2]) (by simp [upd, lk_cons, lk_nil, IE.eval, IE.reval, IE.aeval, hfn, q0, q3, hE, FNw_84, vInt_int]) (by simp [upd, lk_cons, lk_nil, IE.eval, IE.reval, IE.aeval, hfn, q0, q3, hout, hE, FNw_83, FNw_112, unfD_M hU0.1]) (by simp [upd, lk_cons, lk_nil, IE.eval, q5, vInt_int]) (mu_1 (k := out.length + 1) (.inr ⟨.inr rfl, by rw [q5]; omega, by rw [q5]; omega⟩) (by simp [upd, lk_cons, lk_nil, IE.eval, q5, vInt_int]) (by omega) (by omega))
          · exact retR_code (hs.twice hlt hE (by omega)) ⟨_, rfl, rfl⟩
          · exfalso; omega
        · simp only [allLeaves, AsOk_cons, AsOk_nil, BE.eval, cmpI, IE.eval, IE.reval, IE.aeval, hfn, q0, q2, q3, q5, hE, if_false, FNw_83, FNw_84, FNw_85, FNw_111 h4, List.headD_cons, Nat.div_one, and_true, true_and, decide_eq_true_eq, decide_eq_false_iff_not, not_false_eq_true, false_and, and_false, false_imp_iff]
          refine ⟨fun hA => ?_, fun hA => ?_⟩
          · exact retR_code (hs.code hlt hE) ⟨_, rfl, by simp only [IE.eval, IE.reval, IE.aeval, hfn, q0, q3, FNw_85, List.headD_cons]⟩
          · exfalso; omega
      · simp only [allLeaves, AsOk_cons, AsOk_nil, BE.eval, cmpI, IE.eval, IE.reval, IE.aeval, hfn, q0, q2, q3, q5, hlt, decide_false, Bool.false_eq_true, FNw_83, FNw_84, FNw_85, FNw_111 h4, List.headD_cons, Nat.div_one, and_true, true_and, decide_eq_true_eq, decide_eq_false_iff_not, false_and, and_false, false_imp_iff]
        exact fun hA => hend (hs.done hlt)
    · cases h
    · cases h
  · rintro ⟨_, _, _, p, hl, h1, h2, h3, h4, q0, q2, q3, ⟨h, _⟩ | ⟨h, _⟩ | ⟨h, _⟩ | ⟨_, q6, hs⟩ | ⟨h, _⟩⟩
    · cases h
    · cases h
    · cases h
    · simp only [List.cons.injEq, and_true] at hl
      obtain ⟨rfl, rfl, rfl⟩ := hl
      refine ⟨fun hA => ?_, trivial⟩
      refine .inl ⟨⟨b, a, n, p, rfl, h1, h2, h3, h4, ?_, ?_, ?_, .inr (.inr (.inr (.inr ⟨rfl, [], 1, ?_, ?_, ?_, ?_, ?_⟩)))⟩, fun m hm => ?_⟩
      · simp [upd, lk_nil, lk_cons, q0]
      · simp [upd, lk_cons, lk_nil, q2]
      · simp [upd, lk_cons, lk_nil, IE.eval, q3, vInt_int]
      · simp [upd, lk_cons, lk_nil, IE.eval, vInt_int]
      · simp [upd, lk_cons, lk_nil, IE.eval, vInt_int]; omega
      · simp [upd, lk_cons, lk_nil, IE.eval, IE.reval, vInt_int]
      · simp [upd, lk_cons, lk_nil, IE.eval, IE.reval, repL]
      · simpa [upd, lk_cons, lk_nil, IE.eval, vInt_int] using hs
      · cases hm
        exact Prod.lex_def.2 (.inl (by simp [muR, upd, lk_cons, lk_nil, IE.eval, vInt_int]))
    · cases h
  · rintro ⟨_, _, _, p, hl, h1, h2, h3, h4, q0, q2, q3, ⟨h, _⟩ | ⟨h, _⟩ | ⟨h, _⟩ | ⟨h, _⟩ | ⟨_, out, i, q8, hi, q5, q4, hs⟩⟩
    · cases h
    · cases h
    · cases h
    · cases h
    · simp only [List.cons.injEq, and_true] at hl
      obtain ⟨rfl, rfl, rfl⟩ := hl
      have hle := hs.le
      obtain ⟨m, hm⟩ : ∃ m, vInt (env.val 6) = m := ⟨_, rfl⟩
      rw [hm] at hi hs hle
      have r1 := repL_len (m + 1) (by omega)
      have r2 := repL_len (i : Int) (by omega)
      have hl5 : ((env.row 4).length : Int) = out.length + i := by rw [q4, List.length_append]; omega
      rw [List.length_append] at hle
      have e8 : binI .add .u64 (i : Int) 1 = (i : Int) + 1 := wrap_u64 (by omega)
      simp only [allLeaves, AsOk_cons, AsOk_nil, BE.eval, cmpI, IE.eval, IE.reval, q0, q2, q5, q8, hm, Nat.div_one, and_true, decide_eq_true_eq, decide_eq_false_iff_not]
      refine ⟨fun hA => ?_, fun hA => ?_⟩
      · have hi' : (i : Int) = m + 1 := by omega
        rw [← hi', ← q4] at hs
        exact goR_on hs (.inr ⟨rfl, rfl⟩) h1 h2 h3 h4 (by simp [upd, lk_cons, lk_nil, q0]) (by simp [upd, lk_cons, lk_nil, q2]) (by simp [upd, lk_cons, lk_nil, IE.eval, vInt_int]) (by simp [upd, lk_cons, lk_nil, IE.reval]) (by simp [upd, lk_cons, lk_nil, IE.eval, q5, vInt_int]) (Prod.lex_def.2 (.inr ⟨by simp [muR, upd, lk_cons, lk_nil, IE.eval, vInt_int], by simp [muR]⟩))
      · refine .inl ⟨⟨b, a, n, p, rfl, h1, h2, h3, h4, ?_, ?_, ?_, .inr (.inr (.inr (.inr ⟨rfl, out, i + 1, ?_, ?_, ?_, ?_, ?_⟩)))⟩, fun m' hm' => ?_⟩
        · simp [upd, lk_nil, lk_cons, q0]
        · simp [upd, lk_cons, lk_nil, q2]
        · simp [upd, lk_cons, lk_nil, IE.eval, q3, vInt_int]
        · simp [upd, lk_cons, lk_nil, IE.eval, q8, e8, vInt_int]
        · simp [upd, lk_cons, lk_nil, IE.eval, hm, vInt_int]; omega
        · simp [upd, lk_cons, lk_nil, IE.eval, IE.reval, q5, vInt_int]
        · simp [upd, lk_cons, lk_nil, IE.eval, IE.reval, q4, repL_succ]
        · simpa [upd, lk_cons, lk_nil, IE.eval, hm, vInt_int] using hs
        · cases hm'
          exact Prod.lex_def.2 (.inl (by simp [muR, upd, lk_cons, lk_nil, IE.eval, q5, vInt_int]; omega))
  · have no11 : a < 0 ∨ (b.length : Int) < a ∨ n < 0 ∨ 1048576 < n → getM b a n = ([], 0, 11) := fun h => by rw [getM, if_pos h]
    simp only [allLeaves, AsOk_cons, AsOk_nil, BE.eval, cmpI, IE.eval, IE.reval, IE.aeval, hf, hb, hav, hnv, FNw_111 hB, List.headD_cons, Nat.div_one, and_true, decide_true, decide_eq_true_eq, decide_eq_false_iff_not]
    refine ⟨fun hA => retR_code (no11 (.inl hA.1)) ⟨_, rfl, rfl⟩, fun hA => retR_code (no11 (.inr (.inl hA.1))) ⟨_, rfl, rfl⟩, fun hA => retR_code (no11 (.inr (.inr (.inl hA.1)))) ⟨_, rfl, rfl⟩, fun hA => retR_code (no11 (.inr (.inr (.inr hA.1)))) ⟨_, rfl, rfl⟩, fun hA => ?_⟩
    refine .inl (stepG_cut0 ⟨b, a, n, a, rfl, hlen, by omega, by omega, hB, ?_, ?_, ?_, .inl ⟨rfl, Stands.start (by omega) (by omega) (by omega) (by omega)⟩⟩)
    · simp [upd, lk_nil, hb]
    · simp [upd, lk_cons, lk_nil, hnv]
    · simp [upd, lk_cons, lk_nil, IE.eval, hav, vInt_int]

end Go.Proofs.Ytkfejcffacbngaa.J


namespace Go.Proofs.Ytkfejcffacbngaa.J

open Go Go.Sym

set_option linter.unusedVariables false

abbrev knH : Kn := [pcAw.ct, pcRPut.ct, pcRGet.ct, pcRGetR.ct, pcSame.ct]
abbrev akH : List ArgK := [.sl [.u8], .int .i64, .int .i64]
abbrev gH : IE := .acons (.rvar 0) (.acons (.rcons (.var 1) .rnil) (.acons (.rcons (.var 2) .rnil) .anil))
abbrev gotH : IE := .rapp 106 gH
abbrev asH0 : As := [awR, ltR (.lit 400) l0 false, (.cmp .eql (.app 111 gH) (.lit 1), true)]
abbrev sameE : BE × Bool := (.cmp .eql (.app 110 (.acons .rnil (.acons .rnil .anil))) (.lit 0), false)
abbrev asH1 : As := [sameE, (.cmp .eql (.app 108 gH) (.lit 0), false), ltR (.lit 1099511627776) (.rlen gotH 1) false, ltR (.lit 0) (.rlen gotH 1) false] ++ asH0

theorem rgets_1 : entryK Try.prog knH 1 400 4 [] 3 (argSVs 0 akH) 3 asH1 = some [([(.cmp .lss (.lit 1048576) (.var 2), true), (.cmp .lss (.lit 2000) (.var 2), true), (.cmp .eql (.app 110 (.acons .rnil (.acons .rnil .anil))) (.lit 0), false), (.cmp .eql (.app 108 (.acons (.rvar 0) (.acons (.rcons (.var 1) .rnil) (.acons (.rcons (.var 2) .rnil) .anil)))) (.lit 0), false), (.cmp .lss (.lit 1099511627776) (.rlen (.rapp 106 (.acons (.rvar 0) (.acons (.rcons (.var 1) .rnil) (.acons (.rcons (.var 2) .rnil) .anil)))) 1), false), (.cmp .lss (.lit 0) (.rlen (.rapp 106 (.acons (.rvar 0) (.acons (.rcons (.var 1) .rnil) (.acons (.rcons (.var 2) .rnil) .anil)))) 1), false), (.cmp .eql (.app 104 .anil) (.lit 0), false), (.cmp .lss (.lit 400) (.rlen (.rvar 0) 1), false), (.cmp .eql (.app 111 (.acons (.rvar 0) (.acons (.rcons (.var 1) .rnil) (.acons (.rcons (.var 2) .rnil) .anil)))) (.lit 1), true)], .ret (.bool true) ⟨0, .nil⟩), ([(.cmp .lss (.lit 1048576) (.var 2), false), (.cmp .lss (.lit 2000) (.var 2), true), (.cmp .eql (.app 110 (.acons .rnil (.acons .rnil .anil))) (.lit 0), false), (.cmp .eql (.app 108 (.acons (.rvar 0) (.acons (.rcons (.var 1) .rnil) (.acons (.rcons (.var 2) .rnil) .anil)))) (.lit 0), false), (.cmp .lss (.lit 1099511627776) (.rlen (.rapp 106 (.acons (.rvar 0) (.acons (.rcons (.var 1) .rnil) (.acons (.rcons (.var 2) .rnil) .anil)))) 1), false), (.cmp .lss (.lit 0) (.rlen (.rapp 106 (.acons (.rvar 0) (.acons (.rcons (.var 1) .rnil) (.acons (.rcons (.var 2) .rnil) .anil)))) 1), false), (.cmp .eql (.app 104 .anil) (.lit 0), false), (.cmp .lss (.lit 400) (.rlen (.rvar 0) 1), false), (.cmp .eql (.app 111 (.acons (.rvar 0) (.acons (.rcons (.var 1) .rnil) (.acons (.rcons (.var 2) .rnil) .anil)))) (.lit 1), true)], .ret (.bool true) ⟨0, .nil⟩), ([(.cmp .lss (.lit 2000) (.var 2), false), (.cmp .eql (.app 110 (.acons .rnil (.acons .rnil .anil))) (.lit 0), false), (.cmp .eql (.app 108 (.acons (.rvar 0) (.acons (.rcons (.var 1) .rnil) (.acons (.rcons (.var 2) .rnil) .anil)))) (.lit 0), false), (.cmp .lss (.lit 1099511627776) (.rlen (.rapp 106 (.acons (.rvar 0) (.acons (.rcons (.var 1) .rnil) (.acons (.rcons (.var 2) .rnil) .anil)))) 1), false), (.cmp .lss (.lit 0) (.rlen (.rapp 106 (.acons (.rvar 0) (.acons (.rcons (.var 1) .rnil) (.acons (.rcons (.var 2) .rnil) .anil)))) 1), false), (.cmp .eql (.app 104 .anil) (.lit 0), false), (.cmp .lss (.lit 400) (.rlen (.rvar 0) 1), false), (.cmp .eql (.app 111 (.acons (.rvar 0) (.acons (.rcons (.var 1) .rnil) (.acons (.rcons (.var 2) .rnil) .anil)))) (.lit 1), true)], .ret (.bool true) ⟨0, .nil⟩)] := by kernel_rfl

abbrev endH : IE := .app 107 gH
abbrev lenH : IE := minusE endH (.var 1)
abbrev cutH : As := [ltR (.var 1) (.lit 0) false, ltR endH (.var 1) false, ltR l0 endH false, (nonneg lenH, true), (atmB (plusE (.lit 0) lenH) l0, true), (atmB (plusE (.var 1) lenH) l0, true)]
abbrev putH : IE := .rapp 102 (.acons .rnil (.acons gotH .anil))
abbrev asH2 : As := cutH ++ [sameE, (.cmp .eql (.app 108 gH) (.lit 0), true), ltR (.lit 1099511627776) (.rlen gotH 1) false, ltR (.lit 0) (.rlen gotH 1) false, ltR (.lit 2000) (.var 2) false] ++ asH0

theorem rgets_2 : entryK Try.prog knH 1 400 4 [] 3 (argSVs 0 akH) 3 asH2 = some [([(.cmp .lss (.lit 0) (.rlen (.rapp 102 (.acons .rnil (.acons .rnil .anil))) 1), true), (.cmp .lss (.var 1) (.lit 0), false), (.cmp .lss (.app 107 (.acons (.rvar 0) (.acons (.rcons (.var 1) .rnil) (.acons (.rcons (.var 2) .rnil) .anil)))) (.var 1), false), (.cmp .lss (.rlen (.rvar 0) 1) (.app 107 (.acons (.rvar 0) (.acons (.rcons (.var 1) .rnil) (.acons (.rcons (.var 2) .rnil) .anil)))), false), (.not (.cmp .lss (.minus (.app 107 (.acons (.rvar 0) (.acons (.rcons (.var 1) .rnil) (.acons (.rcons (.var 2) .rnil) .anil)))) (.var 1)) (.lit 0)), true), (.not (.cmp .lss (.rlen (.rvar 0) 1) (.minus (.app 107 (.acons (.rvar 0) (.acons (.rcons (.var 1) .rnil) (.acons (.rcons (.var 2) .rnil) .anil)))) (.var 1))), true), (.not (.cmp .lss (.rlen (.rvar 0) 1) (.plus (.var 1) (.minus (.app 107 (.acons (.rvar 0) (.acons (.rcons (.var 1) .rnil) (.acons (.rcons (.var 2) .rnil) .anil)))) (.var 1)))), true), (.cmp .eql (.app 110 (.acons .rnil (.acons .rnil .anil))) (.lit 0), false), (.cmp .eql (.app 108 (.acons (.rvar 0) (.acons (.rcons (.var 1) .rnil) (.acons (.rcons (.var 2) .rnil) .anil)))) (.lit 0), true), (.cmp .lss (.lit 1099511627776) (.rlen (.rapp 106 (.acons (.rvar 0) (.acons (.rcons (.var 1) .rnil) (.acons (.rcons (.var 2) .rnil) .anil)))) 1), false), (.cmp .lss (.lit 0) (.rlen (.rapp 106 (.acons (.rvar 0) (.acons (.rcons (.var 1) .rnil) (.acons (.rcons (.var 2) .rnil) .anil)))) 1), false), (.cmp .lss (.lit 2000) (.var 2), false), (.cmp .eql (.app 104 .anil) (.lit 0), false), (.cmp .lss (.lit 400) (.rlen (.rvar 0) 1), false), (.cmp .eql (.app 111 (.acons (.rvar 0) (.acons (.rcons (.var 1) .rnil) (.acons (.rcons (.var 2) .rnil) .anil)))) (.lit 1), true)], .ret (.sbool (.req (.w8 (.rapp 102 (.acons .rnil (.acons .rnil .anil)))) (.w8 (.sub (.rvar 0) (.var 1) (.plus (.var 1) (.minus (.app 107 (.acons (.rvar 0) (.acons (.rcons (.var 1) .rnil) (.acons (.rcons (.var 2) .rnil) .anil)))) (.var 1))) 1)))) ⟨0, .nil⟩), ([(.cmp .lss (.lit 0) (.rlen (.rapp 102 (.acons .rnil (.acons .rnil .anil))) 1), false), (.cmp .lss (.var 1) (.lit 0), false), (.cmp .lss (.app 107 (.acons (.rvar 0) (.acons (.rcons (.var 1) .rnil) (.acons (.rcons (.var 2) .rnil) .anil)))) (.var 1), false), (.cmp .lss (.rlen (.rvar 0) 1) (.app 107 (.acons (.rvar 0) (.acons (.rcons (.var 1) .rnil) (.acons (.rcons (.var 2) .rnil) .anil)))), false), (.not (.cmp .lss (.minus (.app 107 (.acons (.rvar 0) (.acons (.rcons (.var 1) .rnil) (.acons (.rcons (.var 2) .rnil) .anil)))) (.var 1)) (.lit 0)), true), (.not (.cmp .lss (.rlen (.rvar 0) 1) (.minus (.app 107 (.acons (.rvar 0) (.acons (.rcons (.var 1) .rnil) (.acons (.rcons (.var 2) .rnil) .anil)))) (.var 1))), true), (.not (.cmp .lss (.rlen (.rvar 0) 1) (.plus (.var 1) (.minus (.app 107 (.acons (.rvar 0) (.acons (.rcons (.var 1) .rnil) (.acons (.rcons (.var 2) .rnil) .anil)))) (.var 1)))), true), (.cmp .eql (.app 110 (.acons .rnil (.acons .rnil .anil))) (.lit 0), false), (.cmp .eql (.app 108 (.acons (.rvar 0) (.acons (.rcons (.var 1) .rnil) (.acons (.rcons (.var 2) .rnil) .anil)))) (.lit 0), true), (.cmp .lss (.lit 1099511627776) (.rlen (.rapp 106 (.acons (.rvar 0) (.acons (.rcons (.var 1) .rnil) (.acons (.rcons (.var 2) .rnil) .anil)))) 1), false), (.cmp .lss (.lit 0) (.rlen (.rapp 106 (.acons (.rvar 0) (.acons (.rcons (.var 1) .rnil) (.acons (.rcons (.var 2) .rnil) .anil)))) 1), false), (.cmp .lss (.lit 2000) (.var 2), false), (.cmp .eql (.app 104 .anil) (.lit 0), false), (.cmp .lss (.lit 400) (.rlen (.rvar 0) 1), false), (.cmp .eql (.app 111 (.acons (.rvar 0) (.acons (.rcons (.var 1) .rnil) (.acons (.rcons (.var 2) .rnil) .anil)))) (.lit 1), true)], .ret (.sbool (.req (.rcon []) (.w8 (.sub (.rvar 0) (.var 1) (.plus (.var 1) (.minus (.app 107 (.acons (.rvar 0) (.acons (.rcons (.var 1) .rnil) (.acons (.rcons (.var 2) .rnil) .anil)))) (.var 1))) 1)))) ⟨0, .nil⟩)] := by kernel_rfl

abbrev asH3 : As := cutH ++ [(.cmp .eql (.app 110 (.acons gotH (.acons gotH .anil))) (.lit 0), false), (.cmp .eql (.app 108 gH) (.lit 0), true), ltR (.lit 1000000) (.rlen gotH 1) false, ltR (.lit 1099511627776) (.rlen gotH 1) false, ltR (.lit 0) (.rlen gotH 1) true, ltR (.lit 2000) (.var 2) false, ltR (.lit 0) (.rlen putH 1) true] ++ asH0

theorem rgets_3 : entryK Try.prog knH 1 400 4 [] 3 (argSVs 0 akH) 3 asH3 = some [([(.cmp .lss (.var 1) (.lit 0), false), (.cmp .lss (.app 107 (.acons (.rvar 0) (.acons (.rcons (.var 1) .rnil) (.acons (.rcons (.var 2) .rnil) .anil)))) (.var 1), false), (.cmp .lss (.rlen (.rvar 0) 1) (.app 107 (.acons (.rvar 0) (.acons (.rcons (.var 1) .rnil) (.acons (.rcons (.var 2) .rnil) .anil)))), false), (.not (.cmp .lss (.minus (.app 107 (.acons (.rvar 0) (.acons (.rcons (.var 1) .rnil) (.acons (.rcons (.var 2) .rnil) .anil)))) (.var 1)) (.lit 0)), true), (.not (.cmp .lss (.rlen (.rvar 0) 1) (.minus (.app 107 (.acons (.rvar 0) (.acons (.rcons (.var 1) .rnil) (.acons (.rcons (.var 2) .rnil) .anil)))) (.var 1))), true), (.not (.cmp .lss (.rlen (.rvar 0) 1) (.plus (.var 1) (.minus (.app 107 (.acons (.rvar 0) (.acons (.rcons (.var 1) .rnil) (.acons (.rcons (.var 2) .rnil) .anil)))) (.var 1)))), true), (.cmp .eql (.app 110 (.acons (.rapp 106 (.acons (.rvar 0) (.acons (.rcons (.var 1) .rnil) (.acons (.rcons (.var 2) .rnil) .anil)))) (.acons (.rapp 106 (.acons (.rvar 0) (.acons (.rcons (.var 1) .rnil) (.acons (.rcons (.var 2) .rnil) .anil)))) .anil))) (.lit 0), false), (.cmp .eql (.app 108 (.acons (.rvar 0) (.acons (.rcons (.var 1) .rnil) (.acons (.rcons (.var 2) .rnil) .anil)))) (.lit 0), true), (.cmp .lss (.lit 1000000) (.rlen (.rapp 106 (.acons (.rvar 0) (.acons (.rcons (.var 1) .rnil) (.acons (.rcons (.var 2) .rnil) .anil)))) 1), false), (.cmp .lss (.lit 1099511627776) (.rlen (.rapp 106 (.acons (.rvar 0) (.acons (.rcons (.var 1) .rnil) (.acons (.rcons (.var 2) .rnil) .anil)))) 1), false), (.cmp .lss (.lit 0) (.rlen (.rapp 106 (.acons (.rvar 0) (.acons (.rcons (.var 1) .rnil) (.acons (.rcons (.var 2) .rnil) .anil)))) 1), true), (.cmp .lss (.lit 2000) (.var 2), false), (.cmp .lss (.lit 0) (.rlen (.rapp 102 (.acons .rnil (.acons (.rapp 106 (.acons (.rvar 0) (.acons (.rcons (.var 1) .rnil) (.acons (.rcons (.var 2) .rnil) .anil)))) .anil))) 1), true), (.cmp .eql (.app 104 .anil) (.lit 0), false), (.cmp .lss (.lit 400) (.rlen (.rvar 0) 1), false), (.cmp .eql (.app 111 (.acons (.rvar 0) (.acons (.rcons (.var 1) .rnil) (.acons (.rcons (.var 2) .rnil) .anil)))) (.lit 1), true)], .ret (.sbool (.req (.w8 (.rapp 102 (.acons .rnil (.acons (.rapp 106 (.acons (.rvar 0) (.acons (.rcons (.var 1) .rnil) (.acons (.rcons (.var 2) .rnil) .anil)))) .anil)))) (.w8 (.sub (.rvar 0) (.var 1) (.plus (.var 1) (.minus (.app 107 (.acons (.rvar 0) (.acons (.rcons (.var 1) .rnil) (.acons (.rcons (.var 2) .rnil) .anil)))) (.var 1))) 1)))) ⟨0, .nil⟩)] := by kernel_rfl

theorem rgets_mid : entryK Try.prog knH 1 400 4 [] 3 (argSVs 0 akH) 3 [awR, ltR (.lit 400) l0 false, ltR (.lit 2000) (.var 2) true, ltR (.lit 1048576) (.var 2) false] = some [([(.cmp .eql (.app 104 .anil) (.lit 0), false), (.cmp .lss (.lit 400) (.rlen (.rvar 0) 1), false), (.cmp .lss (.lit 2000) (.var 2), true), (.cmp .lss (.lit 1048576) (.var 2), false)], .ret (.bool true) ⟨0, .nil⟩)] := by kernel_rfl

theorem rgets_0 : entryK Try.prog knH 1 400 4 [] 3 (argSVs 0 akH) 3 [awR, ltR (.lit 400) l0 true] = some [([(.cmp .eql (.app 104 .anil) (.lit 0), false), (.cmp .lss (.lit 400) (.rlen (.rvar 0) 1), true)], .ret (.bool true) ⟨0, .nil⟩)] := by kernel_rfl

end Go.Proofs.Ytkfejcffacbngaa.J


namespace Go.Proofs.Ytkfejcffacbngaa.J

open Go Go.Sym

set_option linter.unusedVariables false

theorem drop_sel {b : List Int} {p k c : Nat} (h : p + k < b.length) (hc : selL b ((p : Int) + k) 1 0 = c) : b.drop (p + k) = (c : Int) :: b.drop (p + k + 1) := by
  rw [List.drop_eq_getElem_cons h]
  have e : selL b ((p : Int) + k) 1 0 = b[p + k] := by
    have : ((p : Int) + (k : Int)).toNat = p + k := by omega
    simp [selL, this, h]
  rw [← hc, e]

/-- A NUMBER HAS ONE FORM. -/
theorem lebC_canon {b : List Int} {p : Nat} (hB : bytes8 b) : ∀ (j : Nat), j ≤ 10 → ∀ (K q : Nat), lebC b (p : Int) j (10 - j) = (0, K) → lebU b (p : Int) (10 - j) = q → q < 2 ^ (7 * (10 - j)) →
    ∃ v : Nat, v < 2 ^ (7 * j - 6) ∧ (j < 10 → 0 < v) ∧ K = (10 - j) + (lebN j (v : Int)).length ∧ p + K ≤ b.length ∧ b.drop (p + (10 - j)) = lebN j (v : Int) ++ b.drop (p + K) ∧ lebU b (p : Int) K = ((2 ^ (7 * (10 - j)) * v + q : Nat) : Int) := by
  intro j
  induction j with
  | zero => intro _ K q h _ _; rw [lebC] at h; cases h
  | succ j ih =>
    intro hj K q h hq hl
    obtain ⟨k, hk⟩ : ∃ k, 10 - (j + 1) = k := ⟨_, rfl⟩
    rw [hk] at h hq hl ⊢
    have hjk : 10 - j = k + 1 := by omega
    rw [lebC] at h
    split at h
    · cases h
    · rename_i hin
      obtain ⟨c, hc, hc2⟩ := sel_byte (k := k) hB (a := (p : Int)) (by omega) (by omega)
      have hd := drop_sel (b := b) (p := p) (k := k) (by omega) hc
      rw [hc] at h
      split at h
      · cases h
      · rename_i hform
        have hmb := more_bits (b := b) (a := (p : Int)) (k := k) (by omega) hq hl hc hc2 (fun h9 => by omega)
        split at h
        · rename_i h128
          simp only [Prod.mk.injEq, true_and] at h
          subst h
          have hcm : c % 128 = c := by omega
          rw [hcm] at hmb
          refine ⟨c, ?_, fun h10 => by omega, ?_, by omega, ?_, hmb.1⟩
          · by_cases hj0 : j = 0
            · subst hj0; simp; omega
            · have : (2 : Nat) ^ 8 ≤ 2 ^ (7 * (j + 1) - 6) := Nat.pow_le_pow_right (by omega) (by omega)
              omega
          · rw [lebN_lt (by omega)]; simp
          · rw [lebN_lt (by omega), hd]; rfl
        · rename_i h128
          rw [← hjk] at h hmb
          obtain ⟨v, v1, v2, v3, v4, v5, v6⟩ := ih (by omega) K _ h hmb.1 hmb.2.2
          have hv := v2 (by omega)
          have e1 : (((v * 128 + (c - 128) : Nat) : Int)) % 128 + 128 = c := by omega
          have e2 : (((v * 128 + (c - 128) : Nat) : Int)) / 128 = v := by omega
          have hj0 : j ≠ 0 := by
            rintro rfl
            simp at v1; omega
          have e7 : (2 : Nat) ^ (7 * (10 - j)) = 2 ^ (7 * k) * 128 := by rw [show 7 * (10 - j) = 7 * k + 7 by omega, Nat.pow_add]
          refine ⟨v * 128 + (c - 128), ?_, fun _ => by omega, ?_, v4, ?_, ?_⟩
          · have : (2 : Nat) ^ (7 * (j + 1) - 6) = 128 * 2 ^ (7 * j - 6) := by rw [show 7 * (j + 1) - 6 = 7 + (7 * j - 6) by omega, Nat.pow_add]
            rw [this]
            have : 128 * (v + 1) ≤ 128 * 2 ^ (7 * j - 6) := Nat.mul_le_mul_left _ (by omega)
            omega
          · rw [lebN_ge (by omega), e2, v3]; simp; omega
          · rw [lebN_ge (by omega), e1, e2, hd, List.cons_append, ← v5, hjk]; rfl
          · rw [v6, e7]
            have : 2 ^ (7 * k) * (v * 128 + (c - 128)) = 2 ^ (7 * k) * 128 * v + 2 ^ (7 * k) * (c % 128) := by
              rw [Nat.mul_add, Nat.mul_assoc, Nat.mul_comm 128 v, show c - 128 = c % 128 by omega]
            rw [this]; omega

theorem leb_canon {b : List Int} {p : Nat} (hB : bytes8 b) (h : (lebR b (p : Int)).1 = 0) : ∃ u : Nat, u < 18446744073709551616 ∧ lebU b (p : Int) (lebR b (p : Int)).2 = u ∧ (lebR b (p : Int)).2 = (lebN 10 (u : Int)).length ∧ p + (lebR b (p : Int)).2 ≤ b.length ∧ b.drop p = lebN 10 (u : Int) ++ b.drop (p + (lebR b (p : Int)).2) := by
  have hr : lebR b (p : Int) = (0, (lebR b (p : Int)).2) := by rw [← h]
  generalize (lebR b (p : Int)).2 = K at hr ⊢
  rw [lebR] at hr
  split at hr
  · obtain ⟨v, v1, v2, v3, v4, v5, v6⟩ := lebC_canon (p := p) hB 10 (Nat.le_refl _) K 0 hr (by simp [lebU]) (by decide)
    exact ⟨v, by simpa using v1, by simpa using v6, by simpa using v3, v4, by simpa using v5⟩
  · cases hr

theorem fold_unf {u : Int} (h0 : 0 ≤ u) (h1 : u < 18446744073709551616) : foldM (unfM u) = u ∧ -9223372036854775808 ≤ unfM u ∧ unfM u ≤ 9223372036854775807 := by
  have hr : binI .rem .u64 u 2 = u % 2 := by show u.tmod 2 = u % 2; rw [Int.tmod_eq_emod_of_nonneg h0]
  have hq : binI .quo .u64 u 2 = u / 2 := by
    show IntKind.u64.wrap (u.tdiv 2) = u / 2
    rw [Int.tdiv_eq_ediv_of_nonneg h0]; exact wrap_u64 (by omega)
  have hw : IntKind.i64.wrap (u / 2) = u / 2 := wrap_i64 (by omega)
  have hv : unfM u = if u % 2 = 1 then 0 - u / 2 - 1 else u / 2 := by
    unfold unfM
    rw [hr, hq, hw]
    have t1 : binI .sub .i64 0 (u / 2) = 0 - u / 2 := wrap_i64 (by omega)
    have t2 : binI .sub .i64 (0 - u / 2) 1 = 0 - u / 2 - 1 := wrap_i64 (by omega)
    rw [t1, t2]
  rw [hv]
  split
  · refine ⟨?_, by omega, by omega⟩
    rw [foldM_val (by omega) (by omega), if_pos (by omega)]; omega
  · refine ⟨?_, by omega, by omega⟩
    rw [foldM_val (by omega) (by omega), if_neg (by omega)]; omega

theorem zc_repL (m : Nat) {l : List Int} (h : l.head? ≠ some 0) : zc (List.replicate m 0 ++ l) = m := by
  induction m with
  | zero =>
    cases l with
    | nil => rfl
    | cons x l => simp at h; simp [zc, h]
  | succ m ih => rw [List.replicate_succ, List.cons_append, zc, if_pos rfl, ih]

/-- WHAT IS GOT IS PUT AS IT WAS. -/
theorem getF_canon {b : List Int} {n : Nat} (hB : bytes8 b) (hn : n ≤ 1048576) : ∀ (f : Nat) (p : Nat) (out : List Int) (z : Bool) (res : List Int) (e : Int), getF b n f (p : Int) out z = (res, e, 0) → p ≤ b.length → out.length ≤ n → n < out.length + f →
    ∃ (l : List Int) (e' : Nat), e = e' ∧ res = out ++ l ∧ n = out.length + l.length ∧ p ≤ e' ∧ e' ≤ b.length ∧ (z = true → l.head? ≠ some 0) ∧ b.drop p = putS (runsL l) ++ b.drop e' := by
  intro f
  induction f with
  | zero => intro p out z res e h hp ho hf; omega
  | succ f ih =>
    intro p out z res e h hp ho hf
    rw [getF] at h
    split at h
    · simp only [Prod.mk.injEq, and_true] at h
      obtain ⟨rfl, rfl⟩ := h
      exact ⟨[], p, rfl, by simp, by simp; omega, Nat.le_refl _, hp, fun _ => by simp, by simp [runsL, runsF, putS]⟩
    split at h
    · rename_i h1 h2
      simp only [Prod.mk.injEq] at h
      exact absurd h.2.2 h2
    rename_i h1 h2
    have h2 : (lebR b (p : Int)).1 = 0 := by omega
    obtain ⟨u, u1, u2, u3, u4, u5⟩ := leb_canon hB h2
    obtain ⟨k, hk⟩ : ∃ k, (lebR b (p : Int)).2 = k := ⟨_, rfl⟩
    rw [hk] at u2 u3 u4 u5 h
    rw [u2, cast_add p k] at h
    split at h
    · rename_i hu
      obtain ⟨l, e', q1, q2, q3, q4, q5, q6, q7⟩ := ih _ _ _ _ _ h u4 (by simp; omega) (by simp; omega)
      obtain ⟨f1, f2, f3⟩ := fold_unf (u := (u : Int)) (by omega) (by omega)
      have hx : unfM (u : Int) ≠ 0 := by
        intro h0
        rw [h0] at f1
        exact hu (by rw [← f1]; decide)
      refine ⟨unfM (u : Int) :: l, e', q1, by rw [q2]; simp, by rw [q3]; simp; omega, by omega, q5, fun _ => by simpa using hx, ?_⟩
      rw [runsL_cons, rl_one hx, putS_cons, putB_num hx, f1, u5, List.drop_succ_cons, List.drop_zero, List.append_assoc, ← q7]
    split at h
    · cases h
    rename_i hu hz
    have hz : z = false := by simpa using hz
    have hu0 : u = 0 := by omega
    split at h
    · rename_i h3
      simp only [Prod.mk.injEq] at h
      exact absurd h.2.2 h3
    rename_i h3
    have h3 : (lebR b ((p + k : Nat) : Int)).1 = 0 := by omega
    obtain ⟨m, m1, m2, m3, m4, m5⟩ := leb_canon hB h3
    obtain ⟨k2, hk2⟩ : ∃ k2, (lebR b ((p + k : Nat) : Int)).2 = k2 := ⟨_, rfl⟩
    rw [hk2] at m2 m3 m4 m5 h
    rw [m2, cast_add (p + k) k2] at h
    split at h
    · cases h
    rename_i hm
    rw [show ((m : Int) + 1) = ((m + 1 : Nat) : Int) by omega, repL_rep] at h
    obtain ⟨l, e', q1, q2, q3, q4, q5, q6, q7⟩ := ih _ _ _ _ _ h m4 (by simp; omega) (by simp; omega)
    have hl := q6 rfl
    refine ⟨List.replicate (m + 1) 0 ++ l, e', q1, by rw [q2]; simp, by rw [q3]; simp; omega, by omega, q5, fun h => (by rw [hz] at h; cases h), ?_⟩
    have hrl : rl (0 :: (List.replicate m 0 ++ l)) = m + 1 := by rw [rl, if_pos rfl, zc_repL m hl]
    have e1 : IntKind.i64.wrap (((m + 1 : Nat) : Int) - 1) = (m : Int) := by rw [wrap_i64 (by omega)]; omega
    have e2 : IntKind.u64.wrap (m : Int) = (m : Int) := wrap_u64 (by omega)
    have e3 : (List.replicate m (0 : Int) ++ l).drop m = l := List.drop_left' (by simp)
    rw [List.replicate_succ, List.cons_append, runsL_cons, hrl, putS_cons, putB_zero, e1, e2, List.drop_succ_cons, e3, u5, hu0, show lebN 10 ((0 : Nat) : Int) = [0] by decide, m5, q7]
    simp

theorem get_canon {b : List Int} {a n : Int} {res : List Int} {e : Int} (hB : bytes8 b) (h : getM b a n = (res, e, 0)) : 0 ≤ a ∧ a ≤ e ∧ e ≤ b.length ∧ (res.length : Int) = n ∧ n ≤ 1048576 ∧ putS (runsL res) = (b.drop a.toNat).take (e - a).toNat := by
  rw [getM] at h
  split at h
  · cases h
  · rename_i hn
    obtain ⟨p, rfl⟩ : ∃ p : Nat, a = p := ⟨a.toNat, by omega⟩
    obtain ⟨l, e', rfl, q2, q3, q4, q5, q6, q7⟩ := getF_canon hB (by omega) _ p [] false res e h (by omega) (by simp) (by simp)
    rw [List.nil_append] at q2
    subst q2
    refine ⟨by omega, by omega, by omega, by simp at q3; omega, by omega, ?_⟩
    rw [Int.toNat_natCast, q7]
    have hl := congrArg List.length q7
    rw [List.length_append, List.length_drop, List.length_drop] at hl
    rw [List.take_left' (by omega)]

end Go.Proofs.Ytkfejcffacbngaa.J


namespace Go.Proofs.Ytkfejcffacbngaa.J

open Go Go.Sym

set_option linter.unusedVariables false

theorem u_w {c : Pc} (h : PcOk Try.prog FNu c) (h1 : ∀ i, i < c.rks.length → c.id + i ≠ 112 ∧ c.id + i ≠ 111) (h2 : c.pre = []) : PcOk Try.prog FNw c := by
  refine h.cong (fun i hi => ?_) (fun i hi => by rw [h2] at hi; cases hi)
  have := h1 i hi
  generalize c.id + i = j at this
  funext l
  unfold FNw
  split
  · omega
  · unfold FNv
    split <;> first | omega | rfl

theorem knH_ok : ∀ env : Env, env.fn = FNw → KnOk Try.prog env knH := fun env h =>
  knOk_cons (knOk_cons (knOk_cons (knOk_cons (knOk_cons knOk_nil (Pc.ct_ok h (u_w same_ok (by decide) rfl))) (Pc.ct_ok h rgetR_ok)) (Pc.ct_ok h (u_w (t_u rget_ok (by decide) rfl) (by decide) rfl))) (Pc.ct_ok h (u_w (r_u rput_r (by decide) rfl) (by decide) rfl))) (Pc.ct_ok h (u_w (r_u aw_ok (by decide) rfl) (by decide) rfl))

theorem rgets_inst {w : World} {vs : Array Value} {b a n : List Int} (hargs : ArgsAre w vs.toList akH [b, a, n]) {aa : As} {outs : List Leaf} (hent : entryK Try.prog knH 1 400 4 [] 3 (argSVs 0 akH) 3 aa = some outs)
    (hall : ∀ e0 : Env, ∀ x y : Int, a = [x] → n = [y] → e0.fn = FNw → e0.row 0 = b → vInt (e0.val 1) = x → vInt (e0.val 2) = y →
      AsOk e0 aa ∧ allLeaves (fun lf => AsOk e0 lf.1 → StepL (fun _ _ => False) (fun _ _ => (0, 0)) none e0 lf.2) outs) : Calls Try.prog 4 vs w fun e w' => e = .returned (.bool true) ∧ RowKit.Below w.heap.size w w' := by
  refine law_floyd_as (FN := FNw) mix knH_ok (by decide) hent hargs fun e0 hf ha => ?_
  simp only [ArgsE, ArgE, List.cons.injEq] at ha
  obtain ⟨_, _, ⟨rfl, rfl⟩, ⟨h0, _⟩, _, _, ⟨rfl, rfl⟩, h1, _, _, ⟨rfl, rfl⟩, h2, _⟩ := ha
  exact hall e0 _ _ h1 h2 hf h0 rfl rfl

theorem sub_take (b : List Int) (a e : Int) (h0 : 0 ≤ a) (h : a ≤ e) : subL b a (a + (e - a)) 1 = (b.drop a.toNat).take (e - a).toNat := by
  have : (a + (e - a)).toNat - a.toNat = (e - a).toNat := by omega
  simp only [subL, Nat.mul_one]
  rw [show (a + (e - a)).toNat = e.toNat by omega, List.drop_take, show e.toNat - a.toNat = (e - a).toNat by omega]

theorem getM_code {b : List Int} {a n : Int} (h : (getM b a n).2.2 ≠ 0) : (getM b a n).1 = [] := by
  have key : ∀ (f : Nat) (N : Nat) (p : Int) (out : List Int) (z : Bool), (getF b N f p out z).2.2 ≠ 0 → (getF b N f p out z).1 = [] := by
    intro f N
    induction f with
    | zero => intro p out z h; rfl
    | succ f ih =>
      intro p out z h
      rw [getF] at h ⊢
      by_cases c1 : N ≤ out.length
      · rw [if_pos c1] at h; exact absurd rfl h
      rw [if_neg c1] at h ⊢
      by_cases c2 : (lebR b p).1 ≠ 0
      · rw [if_pos c2]
      rw [if_neg c2] at h ⊢
      by_cases c3 : lebU b p (lebR b p).2 ≠ 0
      · rw [if_pos c3] at h ⊢; exact ih _ _ _ h
      rw [if_neg c3] at h ⊢
      by_cases c4 : z = true
      · rw [if_pos c4]
      rw [if_neg c4] at h ⊢
      by_cases c5 : (lebR b (p + (lebR b p).2)).1 ≠ 0
      · rw [if_pos c5]
      rw [if_neg c5] at h ⊢
      by_cases c6 : (N : Int) - out.length ≤ lebU b (p + (lebR b p).2) (lebR b (p + (lebR b p).2)).2
      · rw [if_pos c6]
      rw [if_neg c6] at h ⊢
      exact ih _ _ _ h
  unfold getM at h ⊢
  by_cases hc : a < 0 ∨ (b.length : Int) < a ∨ n < 0 ∨ 1048576 < n
  · rw [if_pos hc]
  · rw [if_neg hc] at h ⊢; exact key _ _ _ _ _ h

theorem rgets_law {w : World} {vs : Array Value} {b a n : List Int} (hB : bytes8 b) (hargs : ArgsAre w vs.toList akH [b, a, n]) : Calls Try.prog 4 vs w fun e w' => e = .returned (.bool true) ∧ RowKit.Below w.heap.size w w' := by
  obtain ⟨x, y, rfl, rfl⟩ : ∃ x y : Int, a = [x] ∧ n = [y] := by
    obtain ⟨h1, h2, h3⟩ := argsAre_get hargs
    have hv : vs.toList.length = 3 := by first | exact h1 | exact h2
    have hv1 : 1 < vs.toList.length := by omega
    have hv2 : 2 < vs.toList.length := by omega
    obtain ⟨x, _, hx⟩ := h3 1 _ _ _ (List.getElem?_eq_getElem hv1) rfl rfl
    obtain ⟨y, _, hy⟩ := h3 2 _ _ _ (List.getElem?_eq_getElem hv2) rfl rfl
    exact ⟨x, y, hx, hy⟩
  have inst := fun {aa : As} {outs : List Leaf} (hent : entryK Try.prog knH 1 400 4 [] 3 (argSVs 0 akH) 3 aa = some outs) (hall : ∀ e0 : Env, e0.fn = FNw → e0.row 0 = b → vInt (e0.val 1) = x → vInt (e0.val 2) = y →
      AsOk e0 aa ∧ allLeaves (fun lf => AsOk e0 lf.1 → StepL (fun _ _ => False) (fun _ _ => (0, 0)) none e0 lf.2) outs) => rgets_inst hargs hent (fun e0 x' y' hx hy hf h0 h1 h2 => by
        simp only [List.cons.injEq, and_true] at hx hy
        exact hall e0 hf h0 (h1.trans hx.symm) (h2.trans hy.symm))
  by_cases hb : b.length ≤ 400
  · by_cases hc : (getM b x y).2.2 = 0
    · obtain ⟨R, e, hg⟩ : ∃ R e, getM b x y = (R, e, 0) := ⟨_, _, by rw [← hc]⟩
      obtain ⟨c1, c2, c3, c4, c5, c6⟩ := get_canon hB hg
      by_cases hy : y ≤ 2000
      · have hsub := sub_take b x e c1 c2
        rw [← c6] at hsub
        by_cases hR : R = []
        · subst hR
          have h0 : putS (runsL []) = [] := rfl
          rw [h0] at hsub
          refine inst rgets_2 fun e0 hf q0 q1 q2 => ⟨?_, ?_⟩
          · simp only [asH2, cutH, lenH, endH, minusE_eval, plusE_eval, nonneg, atmB, sameE, asH0, awR, ltR, l0, gotH, gH, List.cons_append, List.nil_append, AsOk_cons, AsOk_nil, BE.eval, cmpI, IE.eval, IE.reval, IE.aeval, hf, q0, q1, q2, FNw_104, FNw_106, FNw_107, FNw_108, FNw_110, FNw_111' hB, List.headD_cons, Nat.div_one, hg]
            simp; omega
          · simp only [allLeaves, StepL, AsOk_cons, AsOk_nil, BE.eval, cmpI, IE.eval, IE.reval, IE.aeval, hf, q0, q1, q2, FNw_102, FNw_104, FNw_106, FNw_107, FNw_108, FNw_110, FNw_111' hB, List.headD_cons, Nat.div_one, hg, h0, hsub, w8L]
            simp
        · have hl := List.length_pos_iff.2 hR
          have hp := runsL_ne hR
          refine inst rgets_3 fun e0 hf q0 q1 q2 => ⟨?_, ?_⟩
          · simp only [asH3, cutH, lenH, endH, putH, minusE_eval, plusE_eval, nonneg, atmB, asH0, awR, ltR, l0, gotH, gH, List.cons_append, List.nil_append, AsOk_cons, AsOk_nil, BE.eval, cmpI, IE.eval, IE.reval, IE.aeval, hf, q0, q1, q2, FNw_102, FNw_104, FNw_106, FNw_107, FNw_108, FNw_110, FNw_111' hB, List.headD_cons, Nat.div_one, hg]
            simp; omega
          · simp only [allLeaves, StepL, AsOk_cons, AsOk_nil, BE.eval, cmpI, IE.eval, IE.reval, IE.aeval, hf, q0, q1, q2, FNw_102, FNw_104, FNw_106, FNw_107, FNw_108, FNw_110, FNw_111' hB, List.headD_cons, Nat.div_one, hg, hsub]
            simp
      · refine inst rgets_mid fun e0 hf q0 q1 q2 => ⟨?_, ⟨fun _ => rfl, trivial⟩⟩
        simp only [awR, ltR, l0, AsOk_cons, AsOk_nil, BE.eval, cmpI, IE.eval, IE.reval, IE.aeval, hf, q0, q2, FNw_104, List.headD_cons, Nat.div_one]
        simp; omega
    · have hR := getM_code hc
      refine inst rgets_1 fun e0 hf q0 q1 q2 => ⟨?_, ⟨fun _ => rfl, fun _ => rfl, fun _ => rfl, trivial⟩⟩
      simp only [asH1, sameE, asH0, awR, ltR, l0, gotH, gH, List.cons_append, List.nil_append, AsOk_cons, AsOk_nil, BE.eval, cmpI, IE.eval, IE.reval, IE.aeval, hf, q0, q1, q2, FNw_104, FNw_106, FNw_108, FNw_110, FNw_111' hB, List.headD_cons, Nat.div_one, hR]
      simp [hc]; omega
  · refine inst rgets_0 fun e0 hf q0 q1 q2 => ⟨?_, ⟨fun _ => rfl, trivial⟩⟩
    simp only [awR, ltR, l0, AsOk_cons, AsOk_nil, BE.eval, cmpI, IE.eval, IE.reval, IE.aeval, hf, q0, FNw_104, List.headD_cons, Nat.div_one]
    simp; omega

end Go.Proofs.Ytkfejcffacbngaa.J

