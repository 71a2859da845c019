import Derived.Test.YtkfejcffacbngaaProg
import Derived.Test.YtkfejcffacbngaaSyCd

namespace Go.Proofs.Ytkfejcffacbngaa.J

open Go Go.Sym

set_option linter.unusedVariables false

theorem mix : Try.prog.follows .mixedOrders = true := by kernel_rfl

def lebN : Nat → Int → List Int
  | 0, u => [u]
  | k + 1, u => if u < 128 then [u] else (u % 128 + 128) :: lebN k (u / 128)

def g81 : List (List Int) → List Int
  | [b, [u]] => b ++ lebN 10 u
  | _ => []

def g82 : List (List Int) → List Int
  | [[u]] => lebN 10 u
  | _ => []

def FNa : Nat → List (List Int) → List Int
  | 81, l => g81 l
  | 82, l => g82 l
  | _, _ => []

theorem FNa_81 (b : List Int) (u : Int) : FNa 81 [b, [u]] = b ++ lebN 10 u := rfl
theorem FNa_82 (u : Int) : FNa 82 [[u]] = lebN 10 u := rfl

def pcLeb : Pc := ⟨76, [.sl [.u8], .int .u64], [.sl 5 [.u8]], 81, [(0, 0, 4294967296), (1, 0, 18446744073709551615)], []⟩

def pcRfB : Pc := ⟨78, [.int .u64], [.sl 5 [.u8]], 82, [(0, 0, 18446744073709551615)], []⟩

abbrev lnB : IE := .rlen (.rvar 0) 1

abbrev grow : IE := .bin .sub .i64 (.bin .add .i64 lnB (.lit 10)) (.lit 0)

abbrev asL : As := [(.cmp .lss (.lit 140737488355328) grow, false), (.cmp .lss (.lit 0) grow, true), (.cmp .lss (.bin .add .i64 lnB (.lit 10)) (.lit 0), false), (atmB lnB (.lit 4294967296), true)]

abbrev oB (r n : Nat) : Nat × Blk := (0, ⟨5, 0, [], .nil, true, some (.rvar r, .var n, [.u8])⟩)

abbrev asO : As := [(nonneg (.var 3), true), (atmB (.var 3) (.lit 8589934592), true)]

abbrev cutLeb : Cuts := [([0, 0, 1, 1, 1], ⟨28, [(1, .sint .u64 (.var 4)), (5, .rsl (.own 0) (.lit 0) (.var 3) 1)], [oB 2 3], 1, asO⟩)]

abbrev cutRfB : Cuts := [([0, 0, 1, 1], ⟨21, [(0, .sint .u64 (.var 1)), (2, .nilslice), (3, .slice 0 0 0 0)], [(0, ⟨5, 0, [], .nil, false, none⟩)], 1, []⟩), ([0, 0, 1, 1], ⟨21, [(0, .sint .u64 (.var 1)), (2, .nilslice), (3, .rsl (.own 0) (.lit 0) (.var 3) 1)], [oB 2 3], 1, asO⟩)]

theorem leb_entry : entryK Try.prog [] 50 200 76 cutLeb 2 (argSVs 0 pcLeb.aks) 30 asL = some [([(.cmp .lss (.lit 140737488355328) (.bin .sub .i64 (.bin .add .i64 (.rlen (.rvar 0) 1) (.lit 10)) (.lit 0)), false), (.cmp .lss (.lit 0) (.bin .sub .i64 (.bin .add .i64 (.rlen (.rvar 0) 1) (.lit 10)) (.lit 0)), true), (.cmp .lss (.bin .add .i64 (.rlen (.rvar 0) 1) (.lit 10)) (.lit 0), false), (.not (.cmp .lss (.lit 4294967296) (.rlen (.rvar 0) 1)), true)], .cut 0 ⟨[(3, .rlen (.rvar 0) 1), (4, .var 1)], [(2, .cat (.sub (.rep (.bin .sub .i64 (.bin .add .i64 (.rlen (.rvar 0) 1) (.lit 10)) (.lit 0)) (.rcon [0])) (.lit 0) (.lit 0) 1) (.rvar 0))], [], [(0, 1)]⟩)] := by kernel_rfl

theorem leb_rounds : roundsK Try.prog [] 50 200 76 cutLeb 2 30 cutLeb = some [[([(.cmp .lss (.var 4) (.lit 128), true), (.not (.cmp .lss (.var 3) (.lit 0)), true), (.not (.cmp .lss (.lit 8589934592) (.var 3)), true)], .ret (.rsl (.own 2) (.lit 0) (.plus (.var 3) (.lit 1)) 1) ⟨3, (.node none (.node (some ⟨5, 1, [.sint .u8 (.wrap .u8 (.var 4))], .nil, false, none⟩) .nil .nil) (.node (some ⟨5, 0, [], .nil, true, (some (.cat (.rvar 2) (.rcons (.wrap .u8 (.var 4)) .rnil), (.plus (.var 3) (.lit 1), [.u8])))⟩) .nil .nil))⟩), ([(.cmp .lss (.var 4) (.lit 128), false), (.not (.cmp .lss (.var 3) (.lit 0)), true), (.not (.cmp .lss (.lit 8589934592) (.var 3)), true)], .cut 0 ⟨[(3, .plus (.var 3) (.lit 1)), (4, .bin .shr .u64 (.var 4) (.lit 7))], [(2, .cat (.rvar 2) (.rcons (.bin .or .u8 (.wrap .u8 (.var 4)) (.lit 128)) .rnil))], [], [(0, 2)]⟩)]] := by kernel_rfl

theorem rfB_entry : entryK Try.prog [] 50 200 78 cutRfB 1 (argSVs 0 pcRfB.aks) 30 [] = some [([], .cut 0 ⟨[(1, .var 0)], [], [], [(0, 0)]⟩)] := by kernel_rfl

theorem rfB_rounds : roundsK Try.prog [] 50 200 78 cutRfB 1 30 cutRfB = some [[([(.cmp .lss (.lit 127) (.var 1), true)], .cut 1 ⟨[(3, .lit 1), (1, .bin .quo .u64 (.var 1) (.lit 128))], [(2, .rcons (.bin .add .u8 (.wrap .u8 (.bin .rem .u64 (.var 1) (.lit 128))) (.lit 128)) .rnil)], [], [(0, 2)]⟩), ([(.cmp .lss (.lit 127) (.var 1), false)], .ret (.oslice 2 0 1 1) ⟨3, (.node (some ⟨5, 0, [], .nil, false, none⟩) (.node (some ⟨5, 1, [.sint .u8 (.wrap .u8 (.var 1))], .nil, false, none⟩) .nil .nil) (.node (some ⟨5, 1, [], (.node (some (.sint .u8 (.wrap .u8 (.var 1)))) .nil .nil), true, none⟩) .nil .nil))⟩)], [([(.cmp .lss (.lit 127) (.var 1), true), (.not (.cmp .lss (.var 3) (.lit 0)), true), (.not (.cmp .lss (.lit 8589934592) (.var 3)), true)], .cut 1 ⟨[(3, .plus (.var 3) (.lit 1)), (1, .bin .quo .u64 (.var 1) (.lit 128))], [(2, .cat (.rvar 2) (.rcons (.bin .add .u8 (.wrap .u8 (.bin .rem .u64 (.var 1) (.lit 128))) (.lit 128)) .rnil))], [], [(0, 2)]⟩), ([(.cmp .lss (.lit 127) (.var 1), false), (.not (.cmp .lss (.var 3) (.lit 0)), true), (.not (.cmp .lss (.lit 8589934592) (.var 3)), true)], .ret (.rsl (.own 2) (.lit 0) (.plus (.var 3) (.lit 1)) 1) ⟨3, (.node none (.node (some ⟨5, 1, [.sint .u8 (.wrap .u8 (.var 1))], .nil, false, none⟩) .nil .nil) (.node (some ⟨5, 0, [], .nil, true, (some (.cat (.rvar 2) (.rcons (.wrap .u8 (.var 1)) .rnil), (.plus (.var 3) (.lit 1), [.u8])))⟩) .nil .nil))⟩)]] := by kernel_rfl

end Go.Proofs.Ytkfejcffacbngaa.J
