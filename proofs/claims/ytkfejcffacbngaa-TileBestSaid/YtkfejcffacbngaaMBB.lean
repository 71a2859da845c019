import Derived.Test.YtkfejcffacbngaaMBA


namespace Go.Proofs.Ytkfejcffacbngaa.J

open Go Go.Sym

set_option linter.unusedVariables false

def pcTPut : Pc := ⟨27, [.int .i64, .sl [.i64], .int .i64, .int .i64], [.sl 3 [.u8], .int .i64], 120, [(1, 0, 1048576)], []⟩

abbrev rsE : IE := .rapp 118 (.acons (.rcons (.var 0) .rnil) (.acons (.rvar 1) (.acons (.rcons (.var 2) .rnil) .anil)))
abbrev asTP : As := [(atmB n1E (.lit 1048576), true), ltR (.lit 1000000) (.rlen rsE 1) false, ltR (.lit 140737488355328) (.plus (.lit 1) (.rlen (.rapp 105 (.acons rsE .anil)) 1)) false, ltR (.lit 140737488355328) (.plus (.lit 1) (.rlen (.rapp 105 (.acons .rnil .anil)) 1)) false]

theorem tput_entry : entryK Try.prog [pcRestsP.ct, pcRPut.ct] 50 400 27 [] 4 (argSVs 0 pcTPut.aks) 14 asTP = some [([(.cmp .lss (.var 2) (.lit 1), true), (.not (.cmp .lss (.lit 1048576) (.rlen (.rvar 1) 1)), true), (.cmp .lss (.lit 1000000) (.rlen (.rapp 118 (.acons (.rcons (.var 0) .rnil) (.acons (.rvar 1) (.acons (.rcons (.var 2) .rnil) .anil)))) 1), false), (.cmp .lss (.lit 140737488355328) (.plus (.lit 1) (.rlen (.rapp 105 (.acons (.rapp 118 (.acons (.rcons (.var 0) .rnil) (.acons (.rvar 1) (.acons (.rcons (.var 2) .rnil) .anil)))) .anil)) 1)), false), (.cmp .lss (.lit 140737488355328) (.plus (.lit 1) (.rlen (.rapp 105 (.acons .rnil .anil)) 1)), false)], .ret (.tuple [.nilslice, .int .i64 3]) ⟨0, .nil⟩), ([(.cmp .lss (.lit 16) (.var 2), true), (.cmp .lss (.var 2) (.lit 1), false), (.not (.cmp .lss (.lit 1048576) (.rlen (.rvar 1) 1)), true), (.cmp .lss (.lit 1000000) (.rlen (.rapp 118 (.acons (.rcons (.var 0) .rnil) (.acons (.rvar 1) (.acons (.rcons (.var 2) .rnil) .anil)))) 1), false), (.cmp .lss (.lit 140737488355328) (.plus (.lit 1) (.rlen (.rapp 105 (.acons (.rapp 118 (.acons (.rcons (.var 0) .rnil) (.acons (.rvar 1) (.acons (.rcons (.var 2) .rnil) .anil)))) .anil)) 1)), false), (.cmp .lss (.lit 140737488355328) (.plus (.lit 1) (.rlen (.rapp 105 (.acons .rnil .anil)) 1)), false)], .ret (.tuple [.nilslice, .int .i64 3]) ⟨0, .nil⟩), ([(.cmp .lss (.var 3) (.lit 1), true), (.cmp .lss (.lit 16) (.var 2), false), (.cmp .lss (.var 2) (.lit 1), false), (.not (.cmp .lss (.lit 1048576) (.rlen (.rvar 1) 1)), true), (.cmp .lss (.lit 1000000) (.rlen (.rapp 118 (.acons (.rcons (.var 0) .rnil) (.acons (.rvar 1) (.acons (.rcons (.var 2) .rnil) .anil)))) 1), false), (.cmp .lss (.lit 140737488355328) (.plus (.lit 1) (.rlen (.rapp 105 (.acons (.rapp 118 (.acons (.rcons (.var 0) .rnil) (.acons (.rvar 1) (.acons (.rcons (.var 2) .rnil) .anil)))) .anil)) 1)), false), (.cmp .lss (.lit 140737488355328) (.plus (.lit 1) (.rlen (.rapp 105 (.acons .rnil .anil)) 1)), false)], .ret (.tuple [.nilslice, .int .i64 3]) ⟨0, .nil⟩), ([(.cmp .lss (.lit 16) (.var 3), true), (.cmp .lss (.var 3) (.lit 1), false), (.cmp .lss (.lit 16) (.var 2), false), (.cmp .lss (.var 2) (.lit 1), false), (.not (.cmp .lss (.lit 1048576) (.rlen (.rvar 1) 1)), true), (.cmp .lss (.lit 1000000) (.rlen (.rapp 118 (.acons (.rcons (.var 0) .rnil) (.acons (.rvar 1) (.acons (.rcons (.var 2) .rnil) .anil)))) 1), false), (.cmp .lss (.lit 140737488355328) (.plus (.lit 1) (.rlen (.rapp 105 (.acons (.rapp 118 (.acons (.rcons (.var 0) .rnil) (.acons (.rvar 1) (.acons (.rcons (.var 2) .rnil) .anil)))) .anil)) 1)), false), (.cmp .lss (.lit 140737488355328) (.plus (.lit 1) (.rlen (.rapp 105 (.acons .rnil .anil)) 1)), false)], .ret (.tuple [.nilslice, .int .i64 3]) ⟨0, .nil⟩), ([(.cmp .lss (.var 0) (.lit 0), true), (.cmp .lss (.lit 16) (.var 3), false), (.cmp .lss (.var 3) (.lit 1), false), (.cmp .lss (.lit 16) (.var 2), false), (.cmp .lss (.var 2) (.lit 1), false), (.not (.cmp .lss (.lit 1048576) (.rlen (.rvar 1) 1)), true), (.cmp .lss (.lit 1000000) (.rlen (.rapp 118 (.acons (.rcons (.var 0) .rnil) (.acons (.rvar 1) (.acons (.rcons (.var 2) .rnil) .anil)))) 1), false), (.cmp .lss (.lit 140737488355328) (.plus (.lit 1) (.rlen (.rapp 105 (.acons (.rapp 118 (.acons (.rcons (.var 0) .rnil) (.acons (.rvar 1) (.acons (.rcons (.var 2) .rnil) .anil)))) .anil)) 1)), false), (.cmp .lss (.lit 140737488355328) (.plus (.lit 1) (.rlen (.rapp 105 (.acons .rnil .anil)) 1)), false)], .ret (.tuple [.nilslice, .int .i64 11]) ⟨0, .nil⟩), ([(.cmp .lss (.lit 2) (.var 0), true), (.cmp .lss (.var 0) (.lit 0), false), (.cmp .lss (.lit 16) (.var 3), false), (.cmp .lss (.var 3) (.lit 1), false), (.cmp .lss (.lit 16) (.var 2), false), (.cmp .lss (.var 2) (.lit 1), false), (.not (.cmp .lss (.lit 1048576) (.rlen (.rvar 1) 1)), true), (.cmp .lss (.lit 1000000) (.rlen (.rapp 118 (.acons (.rcons (.var 0) .rnil) (.acons (.rvar 1) (.acons (.rcons (.var 2) .rnil) .anil)))) 1), false), (.cmp .lss (.lit 140737488355328) (.plus (.lit 1) (.rlen (.rapp 105 (.acons (.rapp 118 (.acons (.rcons (.var 0) .rnil) (.acons (.rvar 1) (.acons (.rcons (.var 2) .rnil) .anil)))) .anil)) 1)), false), (.cmp .lss (.lit 140737488355328) (.plus (.lit 1) (.rlen (.rapp 105 (.acons .rnil .anil)) 1)), false)], .ret (.tuple [.nilslice, .int .i64 11]) ⟨0, .nil⟩), ([(.cmp .lss (.lit 0) (.rlen (.rapp 102 (.acons (.rcons (.wrap .u8 (.var 0)) .rnil) (.acons (.rapp 118 (.acons (.rcons (.var 0) .rnil) (.acons (.rvar 1) (.acons (.rcons (.var 2) .rnil) .anil)))) .anil))) 1), true), (.cmp .eql (.app 119 (.acons (.rcons (.var 0) .rnil) (.acons (.rvar 1) (.acons (.rcons (.var 2) .rnil) .anil)))) (.lit 0), true), (.cmp .lss (.lit 0) (.rlen (.rapp 118 (.acons (.rcons (.var 0) .rnil) (.acons (.rvar 1) (.acons (.rcons (.var 2) .rnil) .anil)))) 1), true), (.cmp .eql (.rlen (.rvar 1) 1) (.bin .mul .i64 (.var 2) (.var 3)), true), (.cmp .lss (.lit 2) (.var 0), false), (.cmp .lss (.var 0) (.lit 0), false), (.cmp .lss (.lit 16) (.var 3), false), (.cmp .lss (.var 3) (.lit 1), false), (.cmp .lss (.lit 16) (.var 2), false), (.cmp .lss (.var 2) (.lit 1), false), (.not (.cmp .lss (.lit 1048576) (.rlen (.rvar 1) 1)), true), (.cmp .lss (.lit 1000000) (.rlen (.rapp 118 (.acons (.rcons (.var 0) .rnil) (.acons (.rvar 1) (.acons (.rcons (.var 2) .rnil) .anil)))) 1), false), (.cmp .lss (.lit 140737488355328) (.plus (.lit 1) (.rlen (.rapp 105 (.acons (.rapp 118 (.acons (.rcons (.var 0) .rnil) (.acons (.rvar 1) (.acons (.rcons (.var 2) .rnil) .anil)))) .anil)) 1)), false), (.cmp .lss (.lit 140737488355328) (.plus (.lit 1) (.rlen (.rapp 105 (.acons .rnil .anil)) 1)), false)], .ret (.tuple [.rsl (.own 2) (.lit 0) (.rlen (.rapp 102 (.acons (.rcons (.wrap .u8 (.var 0)) .rnil) (.acons (.rapp 118 (.acons (.rcons (.var 0) .rnil) (.acons (.rvar 1) (.acons (.rcons (.var 2) .rnil) .anil)))) .anil))) 1) 1, .int .i64 0]) ⟨3, (.node (some ⟨2, 0, [], .nil, true, (some (.rapp 118 (.acons (.rcons (.var 0) .rnil) (.acons (.rvar 1) (.acons (.rcons (.var 2) .rnil) .anil))), (.rlen (.rapp 118 (.acons (.rcons (.var 0) .rnil) (.acons (.rvar 1) (.acons (.rcons (.var 2) .rnil) .anil)))) 1, [.i64])))⟩) (.node (some ⟨5, 1, [.sint .u8 (.wrap .u8 (.var 0))], .nil, false, none⟩) .nil .nil) (.node (some ⟨5, 0, [], .nil, true, (some (.rapp 102 (.acons (.rcons (.wrap .u8 (.var 0)) .rnil) (.acons (.rapp 118 (.acons (.rcons (.var 0) .rnil) (.acons (.rvar 1) (.acons (.rcons (.var 2) .rnil) .anil)))) .anil)), (.rlen (.rapp 102 (.acons (.rcons (.wrap .u8 (.var 0)) .rnil) (.acons (.rapp 118 (.acons (.rcons (.var 0) .rnil) (.acons (.rvar 1) (.acons (.rcons (.var 2) .rnil) .anil)))) .anil))) 1, [.u8])))⟩) .nil .nil))⟩), ([(.cmp .lss (.lit 0) (.rlen (.rapp 102 (.acons (.rcons (.wrap .u8 (.var 0)) .rnil) (.acons (.rapp 118 (.acons (.rcons (.var 0) .rnil) (.acons (.rvar 1) (.acons (.rcons (.var 2) .rnil) .anil)))) .anil))) 1), false), (.cmp .eql (.app 119 (.acons (.rcons (.var 0) .rnil) (.acons (.rvar 1) (.acons (.rcons (.var 2) .rnil) .anil)))) (.lit 0), true), (.cmp .lss (.lit 0) (.rlen (.rapp 118 (.acons (.rcons (.var 0) .rnil) (.acons (.rvar 1) (.acons (.rcons (.var 2) .rnil) .anil)))) 1), true), (.cmp .eql (.rlen (.rvar 1) 1) (.bin .mul .i64 (.var 2) (.var 3)), true), (.cmp .lss (.lit 2) (.var 0), false), (.cmp .lss (.var 0) (.lit 0), false), (.cmp .lss (.lit 16) (.var 3), false), (.cmp .lss (.var 3) (.lit 1), false), (.cmp .lss (.lit 16) (.var 2), false), (.cmp .lss (.var 2) (.lit 1), false), (.not (.cmp .lss (.lit 1048576) (.rlen (.rvar 1) 1)), true), (.cmp .lss (.lit 1000000) (.rlen (.rapp 118 (.acons (.rcons (.var 0) .rnil) (.acons (.rvar 1) (.acons (.rcons (.var 2) .rnil) .anil)))) 1), false), (.cmp .lss (.lit 140737488355328) (.plus (.lit 1) (.rlen (.rapp 105 (.acons (.rapp 118 (.acons (.rcons (.var 0) .rnil) (.acons (.rvar 1) (.acons (.rcons (.var 2) .rnil) .anil)))) .anil)) 1)), false), (.cmp .lss (.lit 140737488355328) (.plus (.lit 1) (.rlen (.rapp 105 (.acons .rnil .anil)) 1)), false)], .ret (.tuple [.e0, .int .i64 0]) ⟨0, .nil⟩), ([(.cmp .eql (.app 119 (.acons (.rcons (.var 0) .rnil) (.acons (.rvar 1) (.acons (.rcons (.var 2) .rnil) .anil)))) (.lit 0), false), (.cmp .lss (.lit 0) (.rlen (.rapp 118 (.acons (.rcons (.var 0) .rnil) (.acons (.rvar 1) (.acons (.rcons (.var 2) .rnil) .anil)))) 1), true), (.cmp .eql (.rlen (.rvar 1) 1) (.bin .mul .i64 (.var 2) (.var 3)), true), (.cmp .lss (.lit 2) (.var 0), false), (.cmp .lss (.var 0) (.lit 0), false), (.cmp .lss (.lit 16) (.var 3), false), (.cmp .lss (.var 3) (.lit 1), false), (.cmp .lss (.lit 16) (.var 2), false), (.cmp .lss (.var 2) (.lit 1), false), (.not (.cmp .lss (.lit 1048576) (.rlen (.rvar 1) 1)), true), (.cmp .lss (.lit 1000000) (.rlen (.rapp 118 (.acons (.rcons (.var 0) .rnil) (.acons (.rvar 1) (.acons (.rcons (.var 2) .rnil) .anil)))) 1), false), (.cmp .lss (.lit 140737488355328) (.plus (.lit 1) (.rlen (.rapp 105 (.acons (.rapp 118 (.acons (.rcons (.var 0) .rnil) (.acons (.rvar 1) (.acons (.rcons (.var 2) .rnil) .anil)))) .anil)) 1)), false), (.cmp .lss (.lit 140737488355328) (.plus (.lit 1) (.rlen (.rapp 105 (.acons .rnil .anil)) 1)), false)], .ret (.tuple [.nilslice, .sint .i64 (.app 119 (.acons (.rcons (.var 0) .rnil) (.acons (.rvar 1) (.acons (.rcons (.var 2) .rnil) .anil))))]) ⟨0, .nil⟩), ([(.cmp .lss (.lit 0) (.rlen (.rapp 102 (.acons (.rcons (.wrap .u8 (.var 0)) .rnil) (.acons .rnil .anil))) 1), true), (.cmp .eql (.app 119 (.acons (.rcons (.var 0) .rnil) (.acons (.rvar 1) (.acons (.rcons (.var 2) .rnil) .anil)))) (.lit 0), true), (.cmp .lss (.lit 0) (.rlen (.rapp 118 (.acons (.rcons (.var 0) .rnil) (.acons (.rvar 1) (.acons (.rcons (.var 2) .rnil) .anil)))) 1), false), (.cmp .eql (.rlen (.rvar 1) 1) (.bin .mul .i64 (.var 2) (.var 3)), true), (.cmp .lss (.lit 2) (.var 0), false), (.cmp .lss (.var 0) (.lit 0), false), (.cmp .lss (.lit 16) (.var 3), false), (.cmp .lss (.var 3) (.lit 1), false), (.cmp .lss (.lit 16) (.var 2), false), (.cmp .lss (.var 2) (.lit 1), false), (.not (.cmp .lss (.lit 1048576) (.rlen (.rvar 1) 1)), true), (.cmp .lss (.lit 1000000) (.rlen (.rapp 118 (.acons (.rcons (.var 0) .rnil) (.acons (.rvar 1) (.acons (.rcons (.var 2) .rnil) .anil)))) 1), false), (.cmp .lss (.lit 140737488355328) (.plus (.lit 1) (.rlen (.rapp 105 (.acons (.rapp 118 (.acons (.rcons (.var 0) .rnil) (.acons (.rvar 1) (.acons (.rcons (.var 2) .rnil) .anil)))) .anil)) 1)), false), (.cmp .lss (.lit 140737488355328) (.plus (.lit 1) (.rlen (.rapp 105 (.acons .rnil .anil)) 1)), false)], .ret (.tuple [.rsl (.own 1) (.lit 0) (.rlen (.rapp 102 (.acons (.rcons (.wrap .u8 (.var 0)) .rnil) (.acons .rnil .anil))) 1) 1, .int .i64 0]) ⟨2, (.node (some ⟨5, 1, [.sint .u8 (.wrap .u8 (.var 0))], .nil, false, none⟩) (.node (some ⟨5, 0, [], .nil, true, (some (.rapp 102 (.acons (.rcons (.wrap .u8 (.var 0)) .rnil) (.acons .rnil .anil)), (.rlen (.rapp 102 (.acons (.rcons (.wrap .u8 (.var 0)) .rnil) (.acons .rnil .anil))) 1, [.u8])))⟩) .nil .nil) .nil)⟩), ([(.cmp .lss (.lit 0) (.rlen (.rapp 102 (.acons (.rcons (.wrap .u8 (.var 0)) .rnil) (.acons .rnil .anil))) 1), false), (.cmp .eql (.app 119 (.acons (.rcons (.var 0) .rnil) (.acons (.rvar 1) (.acons (.rcons (.var 2) .rnil) .anil)))) (.lit 0), true), (.cmp .lss (.lit 0) (.rlen (.rapp 118 (.acons (.rcons (.var 0) .rnil) (.acons (.rvar 1) (.acons (.rcons (.var 2) .rnil) .anil)))) 1), false), (.cmp .eql (.rlen (.rvar 1) 1) (.bin .mul .i64 (.var 2) (.var 3)), true), (.cmp .lss (.lit 2) (.var 0), false), (.cmp .lss (.var 0) (.lit 0), false), (.cmp .lss (.lit 16) (.var 3), false), (.cmp .lss (.var 3) (.lit 1), false), (.cmp .lss (.lit 16) (.var 2), false), (.cmp .lss (.var 2) (.lit 1), false), (.not (.cmp .lss (.lit 1048576) (.rlen (.rvar 1) 1)), true), (.cmp .lss (.lit 1000000) (.rlen (.rapp 118 (.acons (.rcons (.var 0) .rnil) (.acons (.rvar 1) (.acons (.rcons (.var 2) .rnil) .anil)))) 1), false), (.cmp .lss (.lit 140737488355328) (.plus (.lit 1) (.rlen (.rapp 105 (.acons (.rapp 118 (.acons (.rcons (.var 0) .rnil) (.acons (.rvar 1) (.acons (.rcons (.var 2) .rnil) .anil)))) .anil)) 1)), false), (.cmp .lss (.lit 140737488355328) (.plus (.lit 1) (.rlen (.rapp 105 (.acons .rnil .anil)) 1)), false)], .ret (.tuple [.e0, .int .i64 0]) ⟨0, .nil⟩), ([(.cmp .eql (.app 119 (.acons (.rcons (.var 0) .rnil) (.acons (.rvar 1) (.acons (.rcons (.var 2) .rnil) .anil)))) (.lit 0), false), (.cmp .lss (.lit 0) (.rlen (.rapp 118 (.acons (.rcons (.var 0) .rnil) (.acons (.rvar 1) (.acons (.rcons (.var 2) .rnil) .anil)))) 1), false), (.cmp .eql (.rlen (.rvar 1) 1) (.bin .mul .i64 (.var 2) (.var 3)), true), (.cmp .lss (.lit 2) (.var 0), false), (.cmp .lss (.var 0) (.lit 0), false), (.cmp .lss (.lit 16) (.var 3), false), (.cmp .lss (.var 3) (.lit 1), false), (.cmp .lss (.lit 16) (.var 2), false), (.cmp .lss (.var 2) (.lit 1), false), (.not (.cmp .lss (.lit 1048576) (.rlen (.rvar 1) 1)), true), (.cmp .lss (.lit 1000000) (.rlen (.rapp 118 (.acons (.rcons (.var 0) .rnil) (.acons (.rvar 1) (.acons (.rcons (.var 2) .rnil) .anil)))) 1), false), (.cmp .lss (.lit 140737488355328) (.plus (.lit 1) (.rlen (.rapp 105 (.acons (.rapp 118 (.acons (.rcons (.var 0) .rnil) (.acons (.rvar 1) (.acons (.rcons (.var 2) .rnil) .anil)))) .anil)) 1)), false), (.cmp .lss (.lit 140737488355328) (.plus (.lit 1) (.rlen (.rapp 105 (.acons .rnil .anil)) 1)), false)], .ret (.tuple [.nilslice, .sint .i64 (.app 119 (.acons (.rcons (.var 0) .rnil) (.acons (.rvar 1) (.acons (.rcons (.var 2) .rnil) .anil))))]) ⟨0, .nil⟩), ([(.cmp .eql (.rlen (.rvar 1) 1) (.bin .mul .i64 (.var 2) (.var 3)), false), (.cmp .lss (.lit 2) (.var 0), false), (.cmp .lss (.var 0) (.lit 0), false), (.cmp .lss (.lit 16) (.var 3), false), (.cmp .lss (.var 3) (.lit 1), false), (.cmp .lss (.lit 16) (.var 2), false), (.cmp .lss (.var 2) (.lit 1), false), (.not (.cmp .lss (.lit 1048576) (.rlen (.rvar 1) 1)), true), (.cmp .lss (.lit 1000000) (.rlen (.rapp 118 (.acons (.rcons (.var 0) .rnil) (.acons (.rvar 1) (.acons (.rcons (.var 2) .rnil) .anil)))) 1), false), (.cmp .lss (.lit 140737488355328) (.plus (.lit 1) (.rlen (.rapp 105 (.acons (.rapp 118 (.acons (.rcons (.var 0) .rnil) (.acons (.rvar 1) (.acons (.rcons (.var 2) .rnil) .anil)))) .anil)) 1)), false), (.cmp .lss (.lit 140737488355328) (.plus (.lit 1) (.rlen (.rapp 105 (.acons .rnil .anil)) 1)), false)], .ret (.tuple [.nilslice, .int .i64 6]) ⟨0, .nil⟩)] := by kernel_rfl

def pcTPutD : Pc := ⟨28, [.int .i64, .sl [.i64], .int .i64, .int .i64], [.sl 3 [.u8], .int .i64], 120, [(1, 0, 1048576)], []⟩

theorem tputD_entry : entryK Try.prog [pcRestsD.ct, pcBytes.ct] 50 400 28 [] 4 (argSVs 0 pcTPutD.aks) 14 asTP = some [([(.cmp .lss (.var 0) (.lit 0), true), (.cmp .lss (.var 3) (.lit 17), true), (.cmp .lss (.lit 0) (.var 3), true), (.cmp .lss (.var 2) (.lit 17), true), (.cmp .lss (.lit 0) (.var 2), true), (.not (.cmp .lss (.lit 1048576) (.rlen (.rvar 1) 1)), true), (.cmp .lss (.lit 1000000) (.rlen (.rapp 118 (.acons (.rcons (.var 0) .rnil) (.acons (.rvar 1) (.acons (.rcons (.var 2) .rnil) .anil)))) 1), false), (.cmp .lss (.lit 140737488355328) (.plus (.lit 1) (.rlen (.rapp 105 (.acons (.rapp 118 (.acons (.rcons (.var 0) .rnil) (.acons (.rvar 1) (.acons (.rcons (.var 2) .rnil) .anil)))) .anil)) 1)), false), (.cmp .lss (.lit 140737488355328) (.plus (.lit 1) (.rlen (.rapp 105 (.acons .rnil .anil)) 1)), false)], .ret (.tuple [.nilslice, .int .i64 11]) ⟨0, .nil⟩), ([(.cmp .lss (.lit 2) (.var 0), true), (.cmp .lss (.var 0) (.lit 0), false), (.cmp .lss (.var 3) (.lit 17), true), (.cmp .lss (.lit 0) (.var 3), true), (.cmp .lss (.var 2) (.lit 17), true), (.cmp .lss (.lit 0) (.var 2), true), (.not (.cmp .lss (.lit 1048576) (.rlen (.rvar 1) 1)), true), (.cmp .lss (.lit 1000000) (.rlen (.rapp 118 (.acons (.rcons (.var 0) .rnil) (.acons (.rvar 1) (.acons (.rcons (.var 2) .rnil) .anil)))) 1), false), (.cmp .lss (.lit 140737488355328) (.plus (.lit 1) (.rlen (.rapp 105 (.acons (.rapp 118 (.acons (.rcons (.var 0) .rnil) (.acons (.rvar 1) (.acons (.rcons (.var 2) .rnil) .anil)))) .anil)) 1)), false), (.cmp .lss (.lit 140737488355328) (.plus (.lit 1) (.rlen (.rapp 105 (.acons .rnil .anil)) 1)), false)], .ret (.tuple [.nilslice, .int .i64 11]) ⟨0, .nil⟩), ([(.cmp .lss (.lit 0) (.rlen (.rapp 105 (.acons (.rapp 118 (.acons (.rcons (.var 0) .rnil) (.acons (.rvar 1) (.acons (.rcons (.var 2) .rnil) .anil)))) .anil)) 1), true), (.cmp .eql (.app 119 (.acons (.rcons (.var 0) .rnil) (.acons (.rvar 1) (.acons (.rcons (.var 2) .rnil) .anil)))) (.lit 0), true), (.cmp .lss (.lit 0) (.rlen (.rapp 118 (.acons (.rcons (.var 0) .rnil) (.acons (.rvar 1) (.acons (.rcons (.var 2) .rnil) .anil)))) 1), true), (.cmp .eql (.rlen (.rvar 1) 1) (.bin .mul .i64 (.var 2) (.var 3)), true), (.cmp .lss (.lit 2) (.var 0), false), (.cmp .lss (.var 0) (.lit 0), false), (.cmp .lss (.var 3) (.lit 17), true), (.cmp .lss (.lit 0) (.var 3), true), (.cmp .lss (.var 2) (.lit 17), true), (.cmp .lss (.lit 0) (.var 2), true), (.not (.cmp .lss (.lit 1048576) (.rlen (.rvar 1) 1)), true), (.cmp .lss (.lit 1000000) (.rlen (.rapp 118 (.acons (.rcons (.var 0) .rnil) (.acons (.rvar 1) (.acons (.rcons (.var 2) .rnil) .anil)))) 1), false), (.cmp .lss (.lit 140737488355328) (.plus (.lit 1) (.rlen (.rapp 105 (.acons (.rapp 118 (.acons (.rcons (.var 0) .rnil) (.acons (.rvar 1) (.acons (.rcons (.var 2) .rnil) .anil)))) .anil)) 1)), false), (.cmp .lss (.lit 140737488355328) (.plus (.lit 1) (.rlen (.rapp 105 (.acons .rnil .anil)) 1)), false)], .ret (.tuple [.rsl (.own 3) (.lit 0) (.plus (.lit 1) (.rlen (.rapp 105 (.acons (.rapp 118 (.acons (.rcons (.var 0) .rnil) (.acons (.rvar 1) (.acons (.rcons (.var 2) .rnil) .anil)))) .anil)) 1)) 1, .int .i64 0]) ⟨4, (.node (some ⟨2, 0, [], .nil, true, (some (.rapp 118 (.acons (.rcons (.var 0) .rnil) (.acons (.rvar 1) (.acons (.rcons (.var 2) .rnil) .anil))), (.rlen (.rapp 118 (.acons (.rcons (.var 0) .rnil) (.acons (.rvar 1) (.acons (.rcons (.var 2) .rnil) .anil)))) 1, [.i64])))⟩) (.node none (.node (some ⟨5, 0, [], .nil, true, (some (.cat (.rcons (.wrap .u8 (.var 0)) .rnil) (.rapp 105 (.acons (.rapp 118 (.acons (.rcons (.var 0) .rnil) (.acons (.rvar 1) (.acons (.rcons (.var 2) .rnil) .anil)))) .anil)), (.plus (.lit 1) (.rlen (.rapp 105 (.acons (.rapp 118 (.acons (.rcons (.var 0) .rnil) (.acons (.rvar 1) (.acons (.rcons (.var 2) .rnil) .anil)))) .anil)) 1), [.u8])))⟩) .nil .nil) .nil) (.node (some ⟨5, 0, [], .nil, true, (some (.rapp 105 (.acons (.rapp 118 (.acons (.rcons (.var 0) .rnil) (.acons (.rvar 1) (.acons (.rcons (.var 2) .rnil) .anil)))) .anil), (.rlen (.rapp 105 (.acons (.rapp 118 (.acons (.rcons (.var 0) .rnil) (.acons (.rvar 1) (.acons (.rcons (.var 2) .rnil) .anil)))) .anil)) 1, [.u8])))⟩) .nil .nil))⟩), ([(.cmp .lss (.lit 0) (.rlen (.rapp 105 (.acons (.rapp 118 (.acons (.rcons (.var 0) .rnil) (.acons (.rvar 1) (.acons (.rcons (.var 2) .rnil) .anil)))) .anil)) 1), false), (.cmp .eql (.app 119 (.acons (.rcons (.var 0) .rnil) (.acons (.rvar 1) (.acons (.rcons (.var 2) .rnil) .anil)))) (.lit 0), true), (.cmp .lss (.lit 0) (.rlen (.rapp 118 (.acons (.rcons (.var 0) .rnil) (.acons (.rvar 1) (.acons (.rcons (.var 2) .rnil) .anil)))) 1), true), (.cmp .eql (.rlen (.rvar 1) 1) (.bin .mul .i64 (.var 2) (.var 3)), true), (.cmp .lss (.lit 2) (.var 0), false), (.cmp .lss (.var 0) (.lit 0), false), (.cmp .lss (.var 3) (.lit 17), true), (.cmp .lss (.lit 0) (.var 3), true), (.cmp .lss (.var 2) (.lit 17), true), (.cmp .lss (.lit 0) (.var 2), true), (.not (.cmp .lss (.lit 1048576) (.rlen (.rvar 1) 1)), true), (.cmp .lss (.lit 1000000) (.rlen (.rapp 118 (.acons (.rcons (.var 0) .rnil) (.acons (.rvar 1) (.acons (.rcons (.var 2) .rnil) .anil)))) 1), false), (.cmp .lss (.lit 140737488355328) (.plus (.lit 1) (.rlen (.rapp 105 (.acons (.rapp 118 (.acons (.rcons (.var 0) .rnil) (.acons (.rvar 1) (.acons (.rcons (.var 2) .rnil) .anil)))) .anil)) 1)), false), (.cmp .lss (.lit 140737488355328) (.plus (.lit 1) (.rlen (.rapp 105 (.acons .rnil .anil)) 1)), false)], .ret (.tuple [.rsl (.own 2) (.lit 0) (.lit 1) 1, .int .i64 0]) ⟨3, (.node (some ⟨2, 0, [], .nil, true, (some (.rapp 118 (.acons (.rcons (.var 0) .rnil) (.acons (.rvar 1) (.acons (.rcons (.var 2) .rnil) .anil))), (.rlen (.rapp 118 (.acons (.rcons (.var 0) .rnil) (.acons (.rvar 1) (.acons (.rcons (.var 2) .rnil) .anil)))) 1, [.i64])))⟩) (.node none .nil .nil) (.node (some ⟨5, 0, [], .nil, true, (some (.cat (.rcons (.wrap .u8 (.var 0)) .rnil) .rnil, (.lit 1, [.u8])))⟩) .nil .nil))⟩), ([(.cmp .eql (.app 119 (.acons (.rcons (.var 0) .rnil) (.acons (.rvar 1) (.acons (.rcons (.var 2) .rnil) .anil)))) (.lit 0), false), (.cmp .lss (.lit 0) (.rlen (.rapp 118 (.acons (.rcons (.var 0) .rnil) (.acons (.rvar 1) (.acons (.rcons (.var 2) .rnil) .anil)))) 1), true), (.cmp .eql (.rlen (.rvar 1) 1) (.bin .mul .i64 (.var 2) (.var 3)), true), (.cmp .lss (.lit 2) (.var 0), false), (.cmp .lss (.var 0) (.lit 0), false), (.cmp .lss (.var 3) (.lit 17), true), (.cmp .lss (.lit 0) (.var 3), true), (.cmp .lss (.var 2) (.lit 17), true), (.cmp .lss (.lit 0) (.var 2), true), (.not (.cmp .lss (.lit 1048576) (.rlen (.rvar 1) 1)), true), (.cmp .lss (.lit 1000000) (.rlen (.rapp 118 (.acons (.rcons (.var 0) .rnil) (.acons (.rvar 1) (.acons (.rcons (.var 2) .rnil) .anil)))) 1), false), (.cmp .lss (.lit 140737488355328) (.plus (.lit 1) (.rlen (.rapp 105 (.acons (.rapp 118 (.acons (.rcons (.var 0) .rnil) (.acons (.rvar 1) (.acons (.rcons (.var 2) .rnil) .anil)))) .anil)) 1)), false), (.cmp .lss (.lit 140737488355328) (.plus (.lit 1) (.rlen (.rapp 105 (.acons .rnil .anil)) 1)), false)], .ret (.tuple [.nilslice, .sint .i64 (.app 119 (.acons (.rcons (.var 0) .rnil) (.acons (.rvar 1) (.acons (.rcons (.var 2) .rnil) .anil))))]) ⟨0, .nil⟩), ([(.cmp .lss (.lit 0) (.rlen (.rapp 105 (.acons .rnil .anil)) 1), true), (.cmp .eql (.app 119 (.acons (.rcons (.var 0) .rnil) (.acons (.rvar 1) (.acons (.rcons (.var 2) .rnil) .anil)))) (.lit 0), true), (.cmp .lss (.lit 0) (.rlen (.rapp 118 (.acons (.rcons (.var 0) .rnil) (.acons (.rvar 1) (.acons (.rcons (.var 2) .rnil) .anil)))) 1), false), (.cmp .eql (.rlen (.rvar 1) 1) (.bin .mul .i64 (.var 2) (.var 3)), true), (.cmp .lss (.lit 2) (.var 0), false), (.cmp .lss (.var 0) (.lit 0), false), (.cmp .lss (.var 3) (.lit 17), true), (.cmp .lss (.lit 0) (.var 3), true), (.cmp .lss (.var 2) (.lit 17), true), (.cmp .lss (.lit 0) (.var 2), true), (.not (.cmp .lss (.lit 1048576) (.rlen (.rvar 1) 1)), true), (.cmp .lss (.lit 1000000) (.rlen (.rapp 118 (.acons (.rcons (.var 0) .rnil) (.acons (.rvar 1) (.acons (.rcons (.var 2) .rnil) .anil)))) 1), false), (.cmp .lss (.lit 140737488355328) (.plus (.lit 1) (.rlen (.rapp 105 (.acons (.rapp 118 (.acons (.rcons (.var 0) .rnil) (.acons (.rvar 1) (.acons (.rcons (.var 2) .rnil) .anil)))) .anil)) 1)), false), (.cmp .lss (.lit 140737488355328) (.plus (.lit 1) (.rlen (.rapp 105 (.acons .rnil .anil)) 1)), false)], .ret (.tuple [.rsl (.own 2) (.lit 0) (.plus (.lit 1) (.rlen (.rapp 105 (.acons .rnil .anil)) 1)) 1, .int .i64 0]) ⟨3, (.node none (.node (some ⟨5, 0, [], .nil, true, (some (.rapp 105 (.acons .rnil .anil), (.rlen (.rapp 105 (.acons .rnil .anil)) 1, [.u8])))⟩) .nil .nil) (.node (some ⟨5, 0, [], .nil, true, (some (.cat (.rcons (.wrap .u8 (.var 0)) .rnil) (.rapp 105 (.acons .rnil .anil)), (.plus (.lit 1) (.rlen (.rapp 105 (.acons .rnil .anil)) 1), [.u8])))⟩) .nil .nil))⟩), ([(.cmp .lss (.lit 0) (.rlen (.rapp 105 (.acons .rnil .anil)) 1), false), (.cmp .eql (.app 119 (.acons (.rcons (.var 0) .rnil) (.acons (.rvar 1) (.acons (.rcons (.var 2) .rnil) .anil)))) (.lit 0), true), (.cmp .lss (.lit 0) (.rlen (.rapp 118 (.acons (.rcons (.var 0) .rnil) (.acons (.rvar 1) (.acons (.rcons (.var 2) .rnil) .anil)))) 1), false), (.cmp .eql (.rlen (.rvar 1) 1) (.bin .mul .i64 (.var 2) (.var 3)), true), (.cmp .lss (.lit 2) (.var 0), false), (.cmp .lss (.var 0) (.lit 0), false), (.cmp .lss (.var 3) (.lit 17), true), (.cmp .lss (.lit 0) (.var 3), true), (.cmp .lss (.var 2) (.lit 17), true), (.cmp .lss (.lit 0) (.var 2), true), (.not (.cmp .lss (.lit 1048576) (.rlen (.rvar 1) 1)), true), (.cmp .lss (.lit 1000000) (.rlen (.rapp 118 (.acons (.rcons (.var 0) .rnil) (.acons (.rvar 1) (.acons (.rcons (.var 2) .rnil) .anil)))) 1), false), (.cmp .lss (.lit 140737488355328) (.plus (.lit 1) (.rlen (.rapp 105 (.acons (.rapp 118 (.acons (.rcons (.var 0) .rnil) (.acons (.rvar 1) (.acons (.rcons (.var 2) .rnil) .anil)))) .anil)) 1)), false), (.cmp .lss (.lit 140737488355328) (.plus (.lit 1) (.rlen (.rapp 105 (.acons .rnil .anil)) 1)), false)], .ret (.tuple [.rsl (.own 1) (.lit 0) (.lit 1) 1, .int .i64 0]) ⟨2, (.node none (.node (some ⟨5, 0, [], .nil, true, (some (.cat (.rcons (.wrap .u8 (.var 0)) .rnil) .rnil, (.lit 1, [.u8])))⟩) .nil .nil) .nil)⟩), ([(.cmp .eql (.app 119 (.acons (.rcons (.var 0) .rnil) (.acons (.rvar 1) (.acons (.rcons (.var 2) .rnil) .anil)))) (.lit 0), false), (.cmp .lss (.lit 0) (.rlen (.rapp 118 (.acons (.rcons (.var 0) .rnil) (.acons (.rvar 1) (.acons (.rcons (.var 2) .rnil) .anil)))) 1), false), (.cmp .eql (.rlen (.rvar 1) 1) (.bin .mul .i64 (.var 2) (.var 3)), true), (.cmp .lss (.lit 2) (.var 0), false), (.cmp .lss (.var 0) (.lit 0), false), (.cmp .lss (.var 3) (.lit 17), true), (.cmp .lss (.lit 0) (.var 3), true), (.cmp .lss (.var 2) (.lit 17), true), (.cmp .lss (.lit 0) (.var 2), true), (.not (.cmp .lss (.lit 1048576) (.rlen (.rvar 1) 1)), true), (.cmp .lss (.lit 1000000) (.rlen (.rapp 118 (.acons (.rcons (.var 0) .rnil) (.acons (.rvar 1) (.acons (.rcons (.var 2) .rnil) .anil)))) 1), false), (.cmp .lss (.lit 140737488355328) (.plus (.lit 1) (.rlen (.rapp 105 (.acons (.rapp 118 (.acons (.rcons (.var 0) .rnil) (.acons (.rvar 1) (.acons (.rcons (.var 2) .rnil) .anil)))) .anil)) 1)), false), (.cmp .lss (.lit 140737488355328) (.plus (.lit 1) (.rlen (.rapp 105 (.acons .rnil .anil)) 1)), false)], .ret (.tuple [.nilslice, .sint .i64 (.app 119 (.acons (.rcons (.var 0) .rnil) (.acons (.rvar 1) (.acons (.rcons (.var 2) .rnil) .anil))))]) ⟨0, .nil⟩), ([(.cmp .eql (.rlen (.rvar 1) 1) (.bin .mul .i64 (.var 2) (.var 3)), false), (.cmp .lss (.lit 2) (.var 0), false), (.cmp .lss (.var 0) (.lit 0), false), (.cmp .lss (.var 3) (.lit 17), true), (.cmp .lss (.lit 0) (.var 3), true), (.cmp .lss (.var 2) (.lit 17), true), (.cmp .lss (.lit 0) (.var 2), true), (.not (.cmp .lss (.lit 1048576) (.rlen (.rvar 1) 1)), true), (.cmp .lss (.lit 1000000) (.rlen (.rapp 118 (.acons (.rcons (.var 0) .rnil) (.acons (.rvar 1) (.acons (.rcons (.var 2) .rnil) .anil)))) 1), false), (.cmp .lss (.lit 140737488355328) (.plus (.lit 1) (.rlen (.rapp 105 (.acons (.rapp 118 (.acons (.rcons (.var 0) .rnil) (.acons (.rvar 1) (.acons (.rcons (.var 2) .rnil) .anil)))) .anil)) 1)), false), (.cmp .lss (.lit 140737488355328) (.plus (.lit 1) (.rlen (.rapp 105 (.acons .rnil .anil)) 1)), false)], .ret (.tuple [.nilslice, .int .i64 6]) ⟨0, .nil⟩), ([(.cmp .lss (.var 3) (.lit 17), false), (.cmp .lss (.lit 0) (.var 3), true), (.cmp .lss (.var 2) (.lit 17), true), (.cmp .lss (.lit 0) (.var 2), true), (.not (.cmp .lss (.lit 1048576) (.rlen (.rvar 1) 1)), true), (.cmp .lss (.lit 1000000) (.rlen (.rapp 118 (.acons (.rcons (.var 0) .rnil) (.acons (.rvar 1) (.acons (.rcons (.var 2) .rnil) .anil)))) 1), false), (.cmp .lss (.lit 140737488355328) (.plus (.lit 1) (.rlen (.rapp 105 (.acons (.rapp 118 (.acons (.rcons (.var 0) .rnil) (.acons (.rvar 1) (.acons (.rcons (.var 2) .rnil) .anil)))) .anil)) 1)), false), (.cmp .lss (.lit 140737488355328) (.plus (.lit 1) (.rlen (.rapp 105 (.acons .rnil .anil)) 1)), false)], .ret (.tuple [.nilslice, .int .i64 3]) ⟨0, .nil⟩), ([(.cmp .lss (.lit 0) (.var 3), false), (.cmp .lss (.var 2) (.lit 17), true), (.cmp .lss (.lit 0) (.var 2), true), (.not (.cmp .lss (.lit 1048576) (.rlen (.rvar 1) 1)), true), (.cmp .lss (.lit 1000000) (.rlen (.rapp 118 (.acons (.rcons (.var 0) .rnil) (.acons (.rvar 1) (.acons (.rcons (.var 2) .rnil) .anil)))) 1), false), (.cmp .lss (.lit 140737488355328) (.plus (.lit 1) (.rlen (.rapp 105 (.acons (.rapp 118 (.acons (.rcons (.var 0) .rnil) (.acons (.rvar 1) (.acons (.rcons (.var 2) .rnil) .anil)))) .anil)) 1)), false), (.cmp .lss (.lit 140737488355328) (.plus (.lit 1) (.rlen (.rapp 105 (.acons .rnil .anil)) 1)), false)], .ret (.tuple [.nilslice, .int .i64 3]) ⟨0, .nil⟩), ([(.cmp .lss (.var 2) (.lit 17), false), (.cmp .lss (.lit 0) (.var 2), true), (.not (.cmp .lss (.lit 1048576) (.rlen (.rvar 1) 1)), true), (.cmp .lss (.lit 1000000) (.rlen (.rapp 118 (.acons (.rcons (.var 0) .rnil) (.acons (.rvar 1) (.acons (.rcons (.var 2) .rnil) .anil)))) 1), false), (.cmp .lss (.lit 140737488355328) (.plus (.lit 1) (.rlen (.rapp 105 (.acons (.rapp 118 (.acons (.rcons (.var 0) .rnil) (.acons (.rvar 1) (.acons (.rcons (.var 2) .rnil) .anil)))) .anil)) 1)), false), (.cmp .lss (.lit 140737488355328) (.plus (.lit 1) (.rlen (.rapp 105 (.acons .rnil .anil)) 1)), false)], .ret (.tuple [.nilslice, .int .i64 3]) ⟨0, .nil⟩), ([(.cmp .lss (.lit 0) (.var 2), false), (.not (.cmp .lss (.lit 1048576) (.rlen (.rvar 1) 1)), true), (.cmp .lss (.lit 1000000) (.rlen (.rapp 118 (.acons (.rcons (.var 0) .rnil) (.acons (.rvar 1) (.acons (.rcons (.var 2) .rnil) .anil)))) 1), false), (.cmp .lss (.lit 140737488355328) (.plus (.lit 1) (.rlen (.rapp 105 (.acons (.rapp 118 (.acons (.rcons (.var 0) .rnil) (.acons (.rvar 1) (.acons (.rcons (.var 2) .rnil) .anil)))) .anil)) 1)), false), (.cmp .lss (.lit 140737488355328) (.plus (.lit 1) (.rlen (.rapp 105 (.acons .rnil .anil)) 1)), false)], .ret (.tuple [.nilslice, .int .i64 3]) ⟨0, .nil⟩)] := by kernel_rfl

end Go.Proofs.Ytkfejcffacbngaa.J


namespace Go.Proofs.Ytkfejcffacbngaa.J

open Go Go.Sym

set_option linter.unusedVariables false

end Go.Proofs.Ytkfejcffacbngaa.J


namespace Go.Proofs.Ytkfejcffacbngaa.J

open Go Go.Sym

set_option linter.unusedVariables false

/-- cells of rests, as far as they may be: those ahead, and the code -/
def cellsF (k : Int) (r : List Int) (w : Int) : Nat → List Int × Int
  | 0 => ([], 0)
  | n + 1 => match cellsF k r w n with
    | (c, e) => if e ≠ 0 then ([], e) else if mayV (guessG k c w n + cl r n) then (c ++ [guessG k c w n + cl r n], 0) else ([], 7)

def cellsM (k : Int) (r : List Int) (w : Int) : List Int × Int :=
  if ¬ rightG k w r.length then ([], 11) else cellsF k r w r.length

end Go.Proofs.Ytkfejcffacbngaa.J


namespace Go.Proofs.Ytkfejcffacbngaa.J

open Go Go.Sym

set_option linter.unusedVariables false

def g122 : List (List Int) → List Int
  | [[k], l, [w]] => (cellsM k l w).1
  | _ => []
def g123 : List (List Int) → List Int
  | [[k], l, [w]] => [(cellsM k l w).2]
  | _ => []

noncomputable def FNz : Nat → List (List Int) → List Int
  | 122, l => g122 l
  | 123, l => g123 l
  | i, l => FNy i l

theorem y_z {c : Pc} (h : PcOk Try.prog FNy c) (h1 : ∀ i, i < c.rks.length → c.id + i ≠ 122 ∧ c.id + i ≠ 123) (h2 : ∀ i, i ∈ c.pre → i ≠ 122 ∧ i ≠ 123) : PcOk Try.prog FNz c := by
  have e : ∀ j, j ≠ 122 ∧ j ≠ 123 → FNz j = FNy j := fun j hj => by
    funext l
    unfold FNz
    split <;> first | omega | rfl
  exact h.cong (fun i hi => e _ (h1 i hi)) (fun i hi => e _ (h2 i hi))

end Go.Proofs.Ytkfejcffacbngaa.J


namespace Go.Proofs.Ytkfejcffacbngaa.J

open Go Go.Sym

set_option linter.unusedVariables false

end Go.Proofs.Ytkfejcffacbngaa.J


namespace Go.Proofs.Ytkfejcffacbngaa.J

open Go Go.Sym

set_option linter.unusedVariables false

end Go.Proofs.Ytkfejcffacbngaa.J


namespace Go.Proofs.Ytkfejcffacbngaa.J

open Go Go.Sym

set_option linter.unusedVariables false

abbrev rightT (w h : Int) : Prop := 1 ≤ w ∧ w ≤ 16 ∧ 1 ≤ h ∧ h ≤ 16
/-- a tile's bytes -/
def tputM (k : Int) (l : List Int) (w h : Int) : List Int × Int :=
  if ¬ rightT w h then ([], 3) else if ¬ (0 ≤ k ∧ k ≤ 2) then ([], 11) else if (l.length : Int) ≠ w * h then ([], 6) else if (restsM k l w).2 ≠ 0 then ([], (restsM k l w).2) else (k :: putS (runsL (restsM k l w).1), 0)

def g120 : List (List Int) → List Int
  | [[k], l, [w], [h]] => (tputM k l w h).1
  | _ => []
def g121 : List (List Int) → List Int
  | [[k], l, [w], [h]] => [(tputM k l w h).2]
  | _ => []

noncomputable def FNta : Nat → List (List Int) → List Int
  | 120, l => g120 l
  | 121, l => g121 l
  | i, l => FNz i l

theorem FNta_102 (b zs : List Int) : FNta 102 [b, zs] = b ++ putS (runsL zs) := rfl
theorem FNta_105 (zs : List Int) : FNta 105 [zs] = putS (runsL zs) := rfl
theorem FNta_118 (k : Int) (l : List Int) (w : Int) : FNta 118 [[k], l, [w]] = (restsM k l w).1 := rfl
theorem FNta_119 (k : Int) (l : List Int) (w : Int) : FNta 119 [[k], l, [w]] = [(restsM k l w).2] := rfl
theorem FNta_120 (k : Int) (l : List Int) (w h : Int) : FNta 120 [[k], l, [w], [h]] = (tputM k l w h).1 := rfl
theorem FNta_121 (k : Int) (l : List Int) (w h : Int) : FNta 121 [[k], l, [w], [h]] = [(tputM k l w h).2] := rfl

theorem z_ta {c : Pc} (h : PcOk Try.prog FNz c) (h1 : ∀ i, i < c.rks.length → c.id + i ≠ 120 ∧ c.id + i ≠ 121) (h2 : ∀ i, i ∈ c.pre → i ≠ 120 ∧ i ≠ 121) : PcOk Try.prog FNta c := by
  have e : ∀ j, j ≠ 120 ∧ j ≠ 121 → FNta j = FNz j := fun j hj => by
    funext l
    unfold FNta
    split <;> first | omega | rfl
  exact h.cong (fun i hi => e _ (h1 i hi)) (fun i hi => e _ (h2 i hi))

theorem w_x {c : Pc} (h : PcOk Try.prog FNw c) (h1 : ∀ i, i < c.rks.length → c.id + i ≠ 115 ∧ c.id + i ≠ 117) (h2 : ∀ i, i ∈ c.pre → i ≠ 115 ∧ i ≠ 117) : PcOk Try.prog FNx c := by
  have e : ∀ j, j ≠ 115 ∧ j ≠ 117 → FNx j = FNw j := fun j hj => by
    funext l
    unfold FNx
    split <;> first | omega | rfl
  exact h.cong (fun i hi => e _ (h1 i hi)) (fun i hi => e _ (h2 i hi))

theorem rput_ta : PcOk Try.prog FNta pcRPut := z_ta (y_z (x_y (w_x (u_w (r_u rput_r (by decide) rfl) (by decide) rfl) (by decide) (by decide)) (by decide) (by decide)) (by decide) (by decide)) (by decide) (by decide)
theorem restsP_ta : PcOk Try.prog FNta pcRestsP := z_ta (y_z restsP_ok (by decide) (by decide)) (by decide) (by decide)
theorem restsD_ta : PcOk Try.prog FNta pcRestsD := z_ta (y_z restsD_ok (by decide) (by decide)) (by decide) (by decide)

theorem restsM_le (k : Int) (l : List Int) (w : Int) : (restsM k l w).1.length ≤ l.length := by
  unfold restsM
  split
  · simp
  split
  · simp
  · simp [restsL_len]

theorem restsM_len {k : Int} {l : List Int} {w : Int} (h : (restsM k l w).2 = 0) : (restsM k l w).1.length = l.length := by
  unfold restsM at h ⊢
  split at h
  · exact absurd h (by decide)
  split at h
  · exact absurd h (by decide)
  · rename_i h1 h2; rw [if_neg h1, if_neg h2]; exact restsL_len ..

theorem putS_runs_le (zs : List Int) : (putS (runsL zs)).length ≤ 22 * zs.length := by
  have h1 := lenS_le (runsL zs)
  have h2 := runsL_len zs.length zs (Nat.le_refl _)
  rw [putS_len]; omega

def pcTP : Pc := ⟨27, [.int .i64, .sl [.i64], .int .i64, .int .i64], [.sl 5 [.u8], .int .i64], 120, [(1, 0, 4096)], []⟩
def pcTD : Pc := ⟨28, [.int .i64, .sl [.i64], .int .i64, .int .i64], [.sl 5 [.u8], .int .i64], 120, [(1, 0, 4096)], []⟩

theorem mul_small {w h : Int} (hr : rightT w h) : binI .mul .i64 w h = w * h ∧ 1 ≤ w * h ∧ w * h ≤ 256 := by
  obtain ⟨h1, h2, h3, h4⟩ := hr
  have e1 : 1 * 1 ≤ w * h := Int.mul_le_mul h1 h3 (by omega) (by omega)
  have e2 : w * h ≤ 16 * 16 := Int.mul_le_mul h2 h4 (by omega) (by omega)
  exact ⟨wrap_i64 (by omega), by omega, by omega⟩

theorem knTP_ok : ∀ env : Env, env.fn = FNta → KnOk Try.prog env [pcRestsP.ct, pcRPut.ct] := fun env h => knOk_cons (knOk_cons knOk_nil (Pc.ct_ok h rput_ta)) (Pc.ct_ok h restsP_ta)

set_option maxHeartbeats 2000000 in
theorem tput_ok : PcOk Try.prog FNta pcTP := by
  intro w vs ls hargs hrng hpre
  refine pc_inst' mix pcTP knTP_ok (by decide) tput_entry hargs fun e0 hf ha => ?_
  simp only [pcTP, ArgsE, ArgE] at ha
  obtain ⟨_, _, rfl, rfl, l, _, rfl, ⟨hl, _⟩, _, _, rfl, rfl, _, _, rfl, rfl, rfl⟩ := ha
  have hlen := (hrng.1 (.sl [.i64]) l rfl rfl).2
  obtain ⟨k, hk⟩ : ∃ z, vInt (e0.val 0) = z := ⟨_, rfl⟩
  obtain ⟨W, hw⟩ : ∃ z, vInt (e0.val 2) = z := ⟨_, rfl⟩
  obtain ⟨H, hh⟩ : ∃ z, vInt (e0.val 3) = z := ⟨_, rfl⟩
  simp only [measL, List.length_singleton, Nat.div_one, Nat.zero_add, Nat.reduceAdd, hk, hw, hh] at hlen hl ⊢
  have b1 := restsM_le k l W
  have b2 := putS_runs_le (restsM k l W).1
  refine ⟨?_, ?_⟩
  · have b3 : (putS (runsL ([] : List Int))).length ≤ 22 * ([] : List Int).length := putS_runs_le []
    simp only [asTP, rsE, n1E, ltR, atmB, AsOk_cons, AsOk_nil, BE.eval, cmpI, IE.eval, IE.reval, IE.aeval, hf, hk, hw, hl, FNta_118, FNta_105, Nat.div_one]
    simp at b3
    simp [b3]; omega
  · simp only [allLeaves, AsOk_cons, AsOk_nil, BE.eval, cmpI, IE.eval, IE.reval, IE.aeval, hf, hk, hw, hh, hl, FNta_118, FNta_119, FNta_102, FNta_105, List.headD_cons, Nat.div_one, and_true, decide_eq_true_eq, decide_eq_false_iff_not]
    have hP := mul_small (w := W) (h := H)
    have ret : ∀ (code : Int) (M : Mem), tputM k l W H = ([], code) → StepG FNta [[k], l, [W], [H]] pcTP.id pcTP.rks (fun _ _ => False) (fun _ _ => (0, 0)) none e0 (.ret (.tuple [.nilslice, .int .i64 code]) M) := by
      intro code M h
      refine ⟨[_, _], rfl, ⟨by decide, _, rfl, ?_, trivial⟩, ⟨_, rfl, ?_⟩, rfl⟩
      · simp only [IE.reval, pcTP, FNta_120, h]
      · simp only [IE.eval, pcTP, Nat.reduceAdd, FNta_121, h, List.headD_cons]
    have retS : ∀ (ie : IE) (M : Mem), tputM k l W H = ([], ie.eval e0) → StepG FNta [[k], l, [W], [H]] pcTP.id pcTP.rks (fun _ _ => False) (fun _ _ => (0, 0)) none e0 (.ret (.tuple [.nilslice, .sint .i64 ie]) M) := by
      intro ie M h
      refine ⟨[_, _], rfl, ⟨by decide, _, rfl, ?_, trivial⟩, ⟨_, rfl, ?_⟩, rfl⟩
      · simp only [IE.reval, pcTP, FNta_120, h]
      · simp only [pcTP, Nat.reduceAdd, FNta_121, h, List.headD_cons]
    have t3 : ¬ rightT W H → tputM k l W H = ([], 3) := fun h => by rw [tputM, if_pos h]
    have t11 : rightT W H → ¬ (0 ≤ k ∧ k ≤ 2) → tputM k l W H = ([], 11) := fun h h2 => by rw [tputM, if_neg (fun x => x h), if_pos h2]
    have t6 : rightT W H → (0 ≤ k ∧ k ≤ 2) → (l.length : Int) ≠ W * H → tputM k l W H = ([], 6) := fun h h2 h3 => by rw [tputM, if_neg (fun x => x h), if_neg (fun x => x h2), if_pos h3]
    have tE : rightT W H → (0 ≤ k ∧ k ≤ 2) → (l.length : Int) = W * H → (restsM k l W).2 ≠ 0 → tputM k l W H = ([], (restsM k l W).2) := fun h h2 h3 h4 => by rw [tputM, if_neg (fun x => x h), if_neg (fun x => x h2), if_neg (fun x => x h3), if_pos h4]
    have tO : rightT W H → (0 ≤ k ∧ k ≤ 2) → (l.length : Int) = W * H → (restsM k l W).2 = 0 → tputM k l W H = (k :: putS (runsL (restsM k l W).1), 0) := fun h h2 h3 h4 => by rw [tputM, if_neg (fun x => x h), if_neg (fun x => x h2), if_neg (fun x => x h3), if_neg (fun x => x h4)]
    have evE : ∀ (ie : IE), ie = .app 119 (.acons (.rcons (.var 0) .rnil) (.acons (.rvar 1) (.acons (.rcons (.var 2) .rnil) .anil))) → ie.eval e0 = (restsM k l W).2 := by
      rintro _ rfl
      simp only [IE.eval, IE.reval, IE.aeval, hf, hk, hw, hl, FNta_119, List.headD_cons]
    have hR : 1 ≤ W ∧ W ≤ 16 ∧ 1 ≤ H ∧ H ≤ 16 → binI .mul .i64 W H = W * H := fun h => (hP h).1
    repeat' refine And.intro ?_ ?_
    all_goals intro hA
    all_goals first
      | exact ret 3 _ (t3 (by omega))
      | exact ret 11 _ (t11 (by omega) (by omega))
      | (have h0 := hR (by omega); rw [h0] at hA; exact ret 6 _ (t6 (by omega) (by omega) hA.1))
      | (have h0 := hR (by omega); rw [h0] at hA; exact retS _ _ (by rw [evE _ rfl]; exact tE (by omega) (by omega) hA.2.2.1 hA.1))
      | skip
    · have h0 := hR (by omega); rw [h0] at hA
      have hg := tO (by omega) (by omega) hA.2.2.2.1 hA.2.1
      have hk8 : IntKind.u8.wrap k = k := by rw [wrap_u8]; omega
      have hrow : FNta 102 [[IntKind.u8.wrap k], (restsM k l W).1] = (tputM k l W H).1 := by rw [FNta_102, hg, hk8]; rfl
      refine ⟨[_, _], rfl, ⟨by decide, _, rfl, ?_, ?_⟩, ⟨_, rfl, ?_⟩, rfl⟩
      · rw [subE_eval (by simp only [IE.eval, Nat.div_one]; simp)]
        simp only [IE.reval, IE.eval, IE.aeval, hf, hk, hw, hl, pcTP, FNta_118, FNta_120, hrow, Nat.div_one]
        exact sub_all2 rfl
      · refine ⟨by simp only [IE.eval, IE.reval, Nat.div_one]; omega, fun B r cnt ks' h1 h2 => ?_⟩
        obtain rfl := Option.some.inj h1
        cases h2
        exact Int.le_refl _
      · simp only [IE.eval, pcTP, Nat.reduceAdd, FNta_121, hg, List.headD_cons]
    · exfalso; have := hA.1; simp at this
    · exfalso
      have h0 := hR (by omega); rw [h0] at hA
      have := restsM_len hA.2.1
      have := (hP (by omega)).2.1
      omega
    · exfalso; have := hA.1; simp at this

end Go.Proofs.Ytkfejcffacbngaa.J


namespace Go.Proofs.Ytkfejcffacbngaa.J

open Go Go.Sym

set_option linter.unusedVariables false

theorem bytes_ta : PcOk Try.prog FNta pcBytes := z_ta (y_z (x_y (w_x (u_w (t_u (s_t bytes_ok (by decide) rfl) (by decide) rfl) (by decide) rfl) (by decide) (by decide)) (by decide) (by decide)) (by decide) (by decide)) (by decide) (by decide)

theorem sub_all2' {l : List Int} {n : Int} (h : n = l.length) : subL l 0 n 1 = l := by subst h; exact sub_all2 rfl

theorem knTD_ok : ∀ env : Env, env.fn = FNta → KnOk Try.prog env [pcRestsD.ct, pcBytes.ct] := fun env h => knOk_cons (knOk_cons knOk_nil (Pc.ct_ok h bytes_ta)) (Pc.ct_ok h restsD_ta)

set_option maxHeartbeats 2000000 in
theorem tputD_ok : PcOk Try.prog FNta pcTD := by
  intro w vs ls hargs hrng hpre
  refine pc_inst' mix pcTD knTD_ok (by decide) tputD_entry hargs fun e0 hf ha => ?_
  simp only [pcTD, ArgsE, ArgE] at ha
  obtain ⟨_, _, rfl, rfl, l, _, rfl, ⟨hl, _⟩, _, _, rfl, rfl, _, _, rfl, rfl, rfl⟩ := ha
  have hlen := (hrng.1 (.sl [.i64]) l rfl rfl).2
  obtain ⟨k, hk⟩ : ∃ z, vInt (e0.val 0) = z := ⟨_, rfl⟩
  obtain ⟨W, hw⟩ : ∃ z, vInt (e0.val 2) = z := ⟨_, rfl⟩
  obtain ⟨H, hh⟩ : ∃ z, vInt (e0.val 3) = z := ⟨_, rfl⟩
  simp only [measL, List.length_singleton, Nat.div_one, Nat.zero_add, Nat.reduceAdd, hk, hw, hh] at hlen hl ⊢
  have b1 := restsM_le k l W
  have b2 := putS_runs_le (restsM k l W).1
  refine ⟨?_, ?_⟩
  · have b3 : (putS (runsL ([] : List Int))).length ≤ 22 * ([] : List Int).length := putS_runs_le []
    simp only [asTP, rsE, n1E, ltR, atmB, AsOk_cons, AsOk_nil, BE.eval, cmpI, IE.eval, IE.reval, IE.aeval, hf, hk, hw, hl, FNta_118, FNta_105, Nat.div_one]
    simp at b3
    simp [b3]; omega
  · simp only [allLeaves, AsOk_cons, AsOk_nil, BE.eval, cmpI, IE.eval, IE.reval, IE.aeval, hf, hk, hw, hh, hl, FNta_118, FNta_119, FNta_105, List.headD_cons, Nat.div_one, and_true, decide_eq_true_eq, decide_eq_false_iff_not]
    have hP := mul_small (w := W) (h := H)
    have ret : ∀ (code : Int) (M : Mem), tputM k l W H = ([], code) → StepG FNta [[k], l, [W], [H]] pcTD.id pcTD.rks (fun _ _ => False) (fun _ _ => (0, 0)) none e0 (.ret (.tuple [.nilslice, .int .i64 code]) M) := by
      intro code M h
      refine ⟨[_, _], rfl, ⟨by decide, _, rfl, ?_, trivial⟩, ⟨_, rfl, ?_⟩, rfl⟩
      · simp only [IE.reval, pcTD, FNta_120, h]
      · simp only [IE.eval, pcTD, Nat.reduceAdd, FNta_121, h, List.headD_cons]
    have retS : ∀ (ie : IE) (M : Mem), tputM k l W H = ([], ie.eval e0) → StepG FNta [[k], l, [W], [H]] pcTD.id pcTD.rks (fun _ _ => False) (fun _ _ => (0, 0)) none e0 (.ret (.tuple [.nilslice, .sint .i64 ie]) M) := by
      intro ie M h
      refine ⟨[_, _], rfl, ⟨by decide, _, rfl, ?_, trivial⟩, ⟨_, rfl, ?_⟩, rfl⟩
      · simp only [IE.reval, pcTD, FNta_120, h]
      · simp only [pcTD, Nat.reduceAdd, FNta_121, h, List.headD_cons]
    have t3 : ¬ rightT W H → tputM k l W H = ([], 3) := fun h => by rw [tputM, if_pos h]
    have t11 : rightT W H → ¬ (0 ≤ k ∧ k ≤ 2) → tputM k l W H = ([], 11) := fun h h2 => by rw [tputM, if_neg (fun x => x h), if_pos h2]
    have t6 : rightT W H → (0 ≤ k ∧ k ≤ 2) → (l.length : Int) ≠ W * H → tputM k l W H = ([], 6) := fun h h2 h3 => by rw [tputM, if_neg (fun x => x h), if_neg (fun x => x h2), if_pos h3]
    have tE : rightT W H → (0 ≤ k ∧ k ≤ 2) → (l.length : Int) = W * H → (restsM k l W).2 ≠ 0 → tputM k l W H = ([], (restsM k l W).2) := fun h h2 h3 h4 => by rw [tputM, if_neg (fun x => x h), if_neg (fun x => x h2), if_neg (fun x => x h3), if_pos h4]
    have tO : rightT W H → (0 ≤ k ∧ k ≤ 2) → (l.length : Int) = W * H → (restsM k l W).2 = 0 → tputM k l W H = (k :: putS (runsL (restsM k l W).1), 0) := fun h h2 h3 h4 => by rw [tputM, if_neg (fun x => x h), if_neg (fun x => x h2), if_neg (fun x => x h3), if_neg (fun x => x h4)]
    have evE : ∀ (ie : IE), ie = .app 119 (.acons (.rcons (.var 0) .rnil) (.acons (.rvar 1) (.acons (.rcons (.var 2) .rnil) .anil))) → ie.eval e0 = (restsM k l W).2 := by
      rintro _ rfl
      simp only [IE.eval, IE.reval, IE.aeval, hf, hk, hw, hl, FNta_119, List.headD_cons]
    have hR : 1 ≤ W ∧ W ≤ 16 ∧ 1 ≤ H ∧ H ≤ 16 → binI .mul .i64 W H = W * H := fun h => (hP h).1
    repeat' refine And.intro ?_ ?_
    all_goals intro hA
    all_goals first
      | exact ret 3 _ (t3 (by omega))
      | exact ret 11 _ (t11 (by omega) (by omega))
      | (have h0 := hR (by omega); rw [h0] at hA; exact ret 6 _ (t6 (by omega) (by omega) hA.1))
      | (have h0 := hR (by omega); rw [h0] at hA; exact retS _ _ (by rw [evE _ rfl]; exact tE (by omega) (by omega) hA.2.2.1 hA.1))
      | skip
    · have h0 := hR (by omega); rw [h0] at hA
      have hg := tO (by omega) (by omega) hA.2.2.2.1 hA.2.1
      have hk8 : IntKind.u8.wrap k = k := by rw [wrap_u8]; omega
      refine ⟨[_, _], rfl, ⟨by decide, _, rfl, ?_, ?_⟩, ⟨_, rfl, ?_⟩, rfl⟩
      · rw [subE_eval (by simp only [IE.eval, IE.reval, Nat.div_one, List.length_append, List.length_singleton]; simp; omega)]
        simp only [IE.reval, IE.eval, IE.aeval, hf, hk, hw, hl, pcTD, FNta_118, FNta_120, FNta_105, hg, hk8, Nat.div_one]
        exact sub_all2' (by simp; omega)
      · refine ⟨by simp only [IE.eval, IE.reval, Nat.div_one]; omega, fun B r cnt ks' h1 h2 => ?_⟩
        obtain rfl := Option.some.inj h1
        cases h2
        exact Int.le_refl _
      · simp only [IE.eval, pcTD, Nat.reduceAdd, FNta_121, hg, List.headD_cons]
    · exfalso
      have := runsL_ne (List.length_pos_iff.1 (show 0 < (restsM k l W).1.length by omega))
      omega
    all_goals
      exfalso
      have h0 := hR (by omega); rw [h0] at hA
      first
        | (have := restsM_len hA.2.2.1; have := (hP (by omega)).2.1; omega)
        | (have := restsM_len hA.2.1; have := (hP (by omega)).2.1; omega)

end Go.Proofs.Ytkfejcffacbngaa.J


namespace Go.Proofs.Ytkfejcffacbngaa.J

open Go Go.Sym

set_option linter.unusedVariables false

end Go.Proofs.Ytkfejcffacbngaa.J


namespace Go.Proofs.Ytkfejcffacbngaa.J

open Go Go.Sym

set_option linter.unusedVariables false

/-- the cells of a tile's bytes -/
def tgetM (b : List Int) (w h : Int) : List Int × Int × Int :=
  if ¬ rightT w h then ([], 0, 3) else if b = [] then ([], 0, 14) else if ¬ cl b 0 ≤ 2 then ([], 0, 13) else
  if (getM b 1 (w * h)).2.2 ≠ 0 then ([], 0, (getM b 1 (w * h)).2.2) else if (getM b 1 (w * h)).2.1 ≠ b.length then ([], 0, 13) else
  if (cellsM (cl b 0) (getM b 1 (w * h)).1 w).2 ≠ 0 then ([], 0, (cellsM (cl b 0) (getM b 1 (w * h)).1 w).2) else ((cellsM (cl b 0) (getM b 1 (w * h)).1 w).1, cl b 0, 0)

def g130 : List (List Int) → List Int
  | [b, [w], [h]] => (tgetM b w h).1
  | _ => []
def g131 : List (List Int) → List Int
  | [b, [w], [h]] => [(tgetM b w h).2.1]
  | _ => []
def g132 : List (List Int) → List Int
  | [b, [w], [h]] => [(tgetM b w h).2.2]
  | _ => []

open Classical in
noncomputable def g133 : List (List Int) → List Int
  | [b, _, _] => [if bytes8 b then 1 else 0]
  | _ => []

noncomputable def FNtb : Nat → List (List Int) → List Int
  | 130, l => g130 l
  | 131, l => g131 l
  | 132, l => g132 l
  | 133, l => g133 l
  | i, l => FNta i l

theorem ta_tb {c : Pc} (h : PcOk Try.prog FNta c) (h1 : ∀ i, i < c.rks.length → c.id + i < 130 ∨ 133 < c.id + i) (h2 : ∀ i, i ∈ c.pre → i < 130 ∨ 133 < i) : PcOk Try.prog FNtb c := by
  have e : ∀ j, j < 130 ∨ 133 < j → FNtb j = FNta j := fun j hj => by
    funext l
    unfold FNtb
    split <;> first | omega | rfl
  exact h.cong (fun i hi => e _ (h1 i hi)) (fun i hi => e _ (h2 i hi))

theorem w_tb {c : Pc} (h : PcOk Try.prog FNw c) (h1 : ∀ i, i < c.rks.length → c.id + i < 115) (h2 : ∀ i, i ∈ c.pre → i < 115) : PcOk Try.prog FNtb c :=
  ta_tb (z_ta (y_z (x_y (w_x h (fun i hi => by have := h1 i hi; omega) (fun i hi => by have := h2 i hi; omega)) (fun i hi => by have := h1 i hi; omega) (fun i hi => by have := h2 i hi; omega)) (fun i hi => by have := h1 i hi; omega) (fun i hi => by have := h2 i hi; omega)) (fun i hi => by have := h1 i hi; omega) (fun i hi => by have := h2 i hi; omega)) (fun i hi => by have := h1 i hi; omega) (fun i hi => by have := h2 i hi; omega)

end Go.Proofs.Ytkfejcffacbngaa.J


namespace Go.Proofs.Ytkfejcffacbngaa.J

open Go Go.Sym

set_option linter.unusedVariables false

end Go.Proofs.Ytkfejcffacbngaa.J


namespace Go.Proofs.Ytkfejcffacbngaa.J

open Go Go.Sym

set_option linter.unusedVariables false

abbrev cutA : Cuts := [([0, 1, 0, 1, 1], ⟨25, [(0, .bool false), (1, sl0I), (2, .int .i64 0)], [blkZ], 1, []⟩),
  ([0, 1, 0, 1, 1], ⟨25, [(0, .bool false), (1, rowI), (2, .sint .i64 (.var 3))], [blkI], 1, [(nonneg (.var 3), true), (atmB (.var 3) (.lit 256), true), (nonneg (.var 5), true), (atmB (.var 5) (.lit 256), true), ltR (.lit 17592186044416) (.plus (.var 5) (.lit 1)) false]⟩)]

theorem taw_entry : entryK Try.prog [pcTP.ct] 50 600 26 cutA 0 [] 6 [] = some [([], .cut 0 ⟨[], [], [], [(0, 0)]⟩)] := by kernel_rfl

theorem taw_rounds : roundsK Try.prog [pcTP.ct] 50 600 26 cutA 0 6 cutA = some [[([], .cut 1 ⟨[(3, .lit 1), (5, .lit 1)], [(4, .rcons (.lit 5) .rnil)], [], [(0, 2)]⟩)], [([(.cmp .lss (.var 3) (.lit 256), true), (.not (.cmp .lss (.var 3) (.lit 0)), true), (.not (.cmp .lss (.lit 256) (.var 3)), true), (.not (.cmp .lss (.var 5) (.lit 0)), true), (.not (.cmp .lss (.lit 256) (.var 5)), true), (.cmp .lss (.lit 17592186044416) (.plus (.var 5) (.lit 1)), false)], .cut 1 ⟨[(3, .bin .add .i64 (.var 3) (.lit 1)), (5, .plus (.var 5) (.lit 1))], [(4, .cat (.rvar 4) (.rcons (.lit 5) .rnil))], [], [(0, 2)]⟩), ([(.cmp .eql (.app 121 (.acons (.rcons (.lit 1) .rnil) (.acons (.rvar 4) (.acons (.rcons (.lit 16) .rnil) (.acons (.rcons (.lit 16) .rnil) .anil))))) (.lit 0), true), (.cmp .lss (.lit 0) (.rlen (.rapp 120 (.acons (.rcons (.lit 1) .rnil) (.acons (.rvar 4) (.acons (.rcons (.lit 16) .rnil) (.acons (.rcons (.lit 16) .rnil) .anil))))) 1), true), (.cmp .lss (.var 3) (.lit 256), false), (.not (.cmp .lss (.var 3) (.lit 0)), true), (.not (.cmp .lss (.lit 256) (.var 3)), true), (.not (.cmp .lss (.var 5) (.lit 0)), true), (.not (.cmp .lss (.lit 256) (.var 5)), true), (.cmp .lss (.lit 17592186044416) (.plus (.var 5) (.lit 1)), false)], .ret (.sbool (.req (.w8 (.rapp 120 (.acons (.rcons (.lit 1) .rnil) (.acons (.rvar 4) (.acons (.rcons (.lit 16) .rnil) (.acons (.rcons (.lit 16) .rnil) .anil)))))) (.rcon [1, 10, 0, 254, 1]))) ⟨0, .nil⟩), ([(.cmp .eql (.app 121 (.acons (.rcons (.lit 1) .rnil) (.acons (.rvar 4) (.acons (.rcons (.lit 16) .rnil) (.acons (.rcons (.lit 16) .rnil) .anil))))) (.lit 0), false), (.cmp .lss (.lit 0) (.rlen (.rapp 120 (.acons (.rcons (.lit 1) .rnil) (.acons (.rvar 4) (.acons (.rcons (.lit 16) .rnil) (.acons (.rcons (.lit 16) .rnil) .anil))))) 1), true), (.cmp .lss (.var 3) (.lit 256), false), (.not (.cmp .lss (.var 3) (.lit 0)), true), (.not (.cmp .lss (.lit 256) (.var 3)), true), (.not (.cmp .lss (.var 5) (.lit 0)), true), (.not (.cmp .lss (.lit 256) (.var 5)), true), (.cmp .lss (.lit 17592186044416) (.plus (.var 5) (.lit 1)), false)], .ret (.bool false) ⟨0, .nil⟩), ([(.cmp .eql (.app 121 (.acons (.rcons (.lit 1) .rnil) (.acons (.rvar 4) (.acons (.rcons (.lit 16) .rnil) (.acons (.rcons (.lit 16) .rnil) .anil))))) (.lit 0), true), (.cmp .lss (.lit 0) (.rlen (.rapp 120 (.acons (.rcons (.lit 1) .rnil) (.acons (.rvar 4) (.acons (.rcons (.lit 16) .rnil) (.acons (.rcons (.lit 16) .rnil) .anil))))) 1), false), (.cmp .lss (.var 3) (.lit 256), false), (.not (.cmp .lss (.var 3) (.lit 0)), true), (.not (.cmp .lss (.lit 256) (.var 3)), true), (.not (.cmp .lss (.var 5) (.lit 0)), true), (.not (.cmp .lss (.lit 256) (.var 5)), true), (.cmp .lss (.lit 17592186044416) (.plus (.var 5) (.lit 1)), false)], .ret (.bool false) ⟨0, .nil⟩), ([(.cmp .eql (.app 121 (.acons (.rcons (.lit 1) .rnil) (.acons (.rvar 4) (.acons (.rcons (.lit 16) .rnil) (.acons (.rcons (.lit 16) .rnil) .anil))))) (.lit 0), false), (.cmp .lss (.lit 0) (.rlen (.rapp 120 (.acons (.rcons (.lit 1) .rnil) (.acons (.rvar 4) (.acons (.rcons (.lit 16) .rnil) (.acons (.rcons (.lit 16) .rnil) .anil))))) 1), false), (.cmp .lss (.var 3) (.lit 256), false), (.not (.cmp .lss (.var 3) (.lit 0)), true), (.not (.cmp .lss (.lit 256) (.var 3)), true), (.not (.cmp .lss (.var 5) (.lit 0)), true), (.not (.cmp .lss (.lit 256) (.var 5)), true), (.cmp .lss (.lit 17592186044416) (.plus (.var 5) (.lit 1)), false)], .ret (.bool false) ⟨0, .nil⟩)]] := by kernel_rfl

abbrev akTB : List ArgK := [.sl [.i64], .int .i64, .int .i64]
abbrev rsB (k : Int) : IE := .rapp 118 (.acons (.rcons (.lit k) .rnil) (.acons (.rvar 0) (.acons (.rcons (.var 1) .rnil) .anil)))
abbrev rcB (k : Int) : IE := .app 119 (.acons (.rcons (.lit k) .rnil) (.acons (.rvar 0) (.acons (.rcons (.var 1) .rnil) .anil)))
abbrev rowB (k : Int) : As := [(.cmp .eql (rcB k) (.lit 0), true), ltR (.lit 0) (.rlen (rsB k) 1) true, ltR (.lit 1000000) (.rlen (rsB k) 1) false]
abbrev lenB : BE × Bool := (atmB (.rlen (.rvar 0) 1) (.lit 4096), true)

theorem tbest_1 : entryK Try.prog [pcRestsP.ct, pcRLen.ct] 50 900 33 [] 3 (argSVs 0 akTB) 16 [(.cmp .eql (rcB 0) (.lit 0), false), ltR (.lit 0) (.rlen (rsB 0) 1) false, lenB] = some [([(.cmp .lss (.var 1) (.lit 1), true), (.cmp .eql (.app 119 (.acons (.rcons (.lit 0) .rnil) (.acons (.rvar 0) (.acons (.rcons (.var 1) .rnil) .anil)))) (.lit 0), false), (.cmp .lss (.lit 0) (.rlen (.rapp 118 (.acons (.rcons (.lit 0) .rnil) (.acons (.rvar 0) (.acons (.rcons (.var 1) .rnil) .anil)))) 1), false), (.not (.cmp .lss (.lit 4096) (.rlen (.rvar 0) 1)), true)], .ret (.tuple [.int .i64 0, .int .i64 3]) ⟨0, .nil⟩), ([(.cmp .lss (.lit 16) (.var 1), true), (.cmp .lss (.var 1) (.lit 1), false), (.cmp .eql (.app 119 (.acons (.rcons (.lit 0) .rnil) (.acons (.rvar 0) (.acons (.rcons (.var 1) .rnil) .anil)))) (.lit 0), false), (.cmp .lss (.lit 0) (.rlen (.rapp 118 (.acons (.rcons (.lit 0) .rnil) (.acons (.rvar 0) (.acons (.rcons (.var 1) .rnil) .anil)))) 1), false), (.not (.cmp .lss (.lit 4096) (.rlen (.rvar 0) 1)), true)], .ret (.tuple [.int .i64 0, .int .i64 3]) ⟨0, .nil⟩), ([(.cmp .lss (.var 2) (.lit 1), true), (.cmp .lss (.lit 16) (.var 1), false), (.cmp .lss (.var 1) (.lit 1), false), (.cmp .eql (.app 119 (.acons (.rcons (.lit 0) .rnil) (.acons (.rvar 0) (.acons (.rcons (.var 1) .rnil) .anil)))) (.lit 0), false), (.cmp .lss (.lit 0) (.rlen (.rapp 118 (.acons (.rcons (.lit 0) .rnil) (.acons (.rvar 0) (.acons (.rcons (.var 1) .rnil) .anil)))) 1), false), (.not (.cmp .lss (.lit 4096) (.rlen (.rvar 0) 1)), true)], .ret (.tuple [.int .i64 0, .int .i64 3]) ⟨0, .nil⟩), ([(.cmp .lss (.lit 16) (.var 2), true), (.cmp .lss (.var 2) (.lit 1), false), (.cmp .lss (.lit 16) (.var 1), false), (.cmp .lss (.var 1) (.lit 1), false), (.cmp .eql (.app 119 (.acons (.rcons (.lit 0) .rnil) (.acons (.rvar 0) (.acons (.rcons (.var 1) .rnil) .anil)))) (.lit 0), false), (.cmp .lss (.lit 0) (.rlen (.rapp 118 (.acons (.rcons (.lit 0) .rnil) (.acons (.rvar 0) (.acons (.rcons (.var 1) .rnil) .anil)))) 1), false), (.not (.cmp .lss (.lit 4096) (.rlen (.rvar 0) 1)), true)], .ret (.tuple [.int .i64 0, .int .i64 3]) ⟨0, .nil⟩), ([(.cmp .eql (.rlen (.rvar 0) 1) (.bin .mul .i64 (.var 1) (.var 2)), true), (.cmp .lss (.lit 16) (.var 2), false), (.cmp .lss (.var 2) (.lit 1), false), (.cmp .lss (.lit 16) (.var 1), false), (.cmp .lss (.var 1) (.lit 1), false), (.cmp .eql (.app 119 (.acons (.rcons (.lit 0) .rnil) (.acons (.rvar 0) (.acons (.rcons (.var 1) .rnil) .anil)))) (.lit 0), false), (.cmp .lss (.lit 0) (.rlen (.rapp 118 (.acons (.rcons (.lit 0) .rnil) (.acons (.rvar 0) (.acons (.rcons (.var 1) .rnil) .anil)))) 1), false), (.not (.cmp .lss (.lit 4096) (.rlen (.rvar 0) 1)), true)], .ret (.tuple [.int .i64 0, .sint .i64 (.app 119 (.acons (.rcons (.lit 0) .rnil) (.acons (.rvar 0) (.acons (.rcons (.var 1) .rnil) .anil))))]) ⟨0, .nil⟩), ([(.cmp .eql (.rlen (.rvar 0) 1) (.bin .mul .i64 (.var 1) (.var 2)), false), (.cmp .lss (.lit 16) (.var 2), false), (.cmp .lss (.var 2) (.lit 1), false), (.cmp .lss (.lit 16) (.var 1), false), (.cmp .lss (.var 1) (.lit 1), false), (.cmp .eql (.app 119 (.acons (.rcons (.lit 0) .rnil) (.acons (.rvar 0) (.acons (.rcons (.var 1) .rnil) .anil)))) (.lit 0), false), (.cmp .lss (.lit 0) (.rlen (.rapp 118 (.acons (.rcons (.lit 0) .rnil) (.acons (.rvar 0) (.acons (.rcons (.var 1) .rnil) .anil)))) 1), false), (.not (.cmp .lss (.lit 4096) (.rlen (.rvar 0) 1)), true)], .ret (.tuple [.int .i64 0, .int .i64 6]) ⟨0, .nil⟩)] := by kernel_rfl

theorem tbest_2 : entryK Try.prog [pcRestsP.ct, pcRLen.ct] 50 900 33 [] 3 (argSVs 0 akTB) 16 (rowB 0 ++ rowB 1 ++ rowB 2 ++ [lenB]) = some [([(.cmp .lss (.var 1) (.lit 1), true), (.cmp .eql (.app 119 (.acons (.rcons (.lit 0) .rnil) (.acons (.rvar 0) (.acons (.rcons (.var 1) .rnil) .anil)))) (.lit 0), true), (.cmp .lss (.lit 0) (.rlen (.rapp 118 (.acons (.rcons (.lit 0) .rnil) (.acons (.rvar 0) (.acons (.rcons (.var 1) .rnil) .anil)))) 1), true), (.cmp .lss (.lit 1000000) (.rlen (.rapp 118 (.acons (.rcons (.lit 0) .rnil) (.acons (.rvar 0) (.acons (.rcons (.var 1) .rnil) .anil)))) 1), false), (.cmp .eql (.app 119 (.acons (.rcons (.lit 1) .rnil) (.acons (.rvar 0) (.acons (.rcons (.var 1) .rnil) .anil)))) (.lit 0), true), (.cmp .lss (.lit 0) (.rlen (.rapp 118 (.acons (.rcons (.lit 1) .rnil) (.acons (.rvar 0) (.acons (.rcons (.var 1) .rnil) .anil)))) 1), true), (.cmp .lss (.lit 1000000) (.rlen (.rapp 118 (.acons (.rcons (.lit 1) .rnil) (.acons (.rvar 0) (.acons (.rcons (.var 1) .rnil) .anil)))) 1), false), (.cmp .eql (.app 119 (.acons (.rcons (.lit 2) .rnil) (.acons (.rvar 0) (.acons (.rcons (.var 1) .rnil) .anil)))) (.lit 0), true), (.cmp .lss (.lit 0) (.rlen (.rapp 118 (.acons (.rcons (.lit 2) .rnil) (.acons (.rvar 0) (.acons (.rcons (.var 1) .rnil) .anil)))) 1), true), (.cmp .lss (.lit 1000000) (.rlen (.rapp 118 (.acons (.rcons (.lit 2) .rnil) (.acons (.rvar 0) (.acons (.rcons (.var 1) .rnil) .anil)))) 1), false), (.not (.cmp .lss (.lit 4096) (.rlen (.rvar 0) 1)), true)], .ret (.tuple [.int .i64 0, .int .i64 3]) ⟨0, .nil⟩), ([(.cmp .lss (.lit 16) (.var 1), true), (.cmp .lss (.var 1) (.lit 1), false), (.cmp .eql (.app 119 (.acons (.rcons (.lit 0) .rnil) (.acons (.rvar 0) (.acons (.rcons (.var 1) .rnil) .anil)))) (.lit 0), true), (.cmp .lss (.lit 0) (.rlen (.rapp 118 (.acons (.rcons (.lit 0) .rnil) (.acons (.rvar 0) (.acons (.rcons (.var 1) .rnil) .anil)))) 1), true), (.cmp .lss (.lit 1000000) (.rlen (.rapp 118 (.acons (.rcons (.lit 0) .rnil) (.acons (.rvar 0) (.acons (.rcons (.var 1) .rnil) .anil)))) 1), false), (.cmp .eql (.app 119 (.acons (.rcons (.lit 1) .rnil) (.acons (.rvar 0) (.acons (.rcons (.var 1) .rnil) .anil)))) (.lit 0), true), (.cmp .lss (.lit 0) (.rlen (.rapp 118 (.acons (.rcons (.lit 1) .rnil) (.acons (.rvar 0) (.acons (.rcons (.var 1) .rnil) .anil)))) 1), true), (.cmp .lss (.lit 1000000) (.rlen (.rapp 118 (.acons (.rcons (.lit 1) .rnil) (.acons (.rvar 0) (.acons (.rcons (.var 1) .rnil) .anil)))) 1), false), (.cmp .eql (.app 119 (.acons (.rcons (.lit 2) .rnil) (.acons (.rvar 0) (.acons (.rcons (.var 1) .rnil) .anil)))) (.lit 0), true), (.cmp .lss (.lit 0) (.rlen (.rapp 118 (.acons (.rcons (.lit 2) .rnil) (.acons (.rvar 0) (.acons (.rcons (.var 1) .rnil) .anil)))) 1), true), (.cmp .lss (.lit 1000000) (.rlen (.rapp 118 (.acons (.rcons (.lit 2) .rnil) (.acons (.rvar 0) (.acons (.rcons (.var 1) .rnil) .anil)))) 1), false), (.not (.cmp .lss (.lit 4096) (.rlen (.rvar 0) 1)), true)], .ret (.tuple [.int .i64 0, .int .i64 3]) ⟨0, .nil⟩), ([(.cmp .lss (.var 2) (.lit 1), true), (.cmp .lss (.lit 16) (.var 1), false), (.cmp .lss (.var 1) (.lit 1), false), (.cmp .eql (.app 119 (.acons (.rcons (.lit 0) .rnil) (.acons (.rvar 0) (.acons (.rcons (.var 1) .rnil) .anil)))) (.lit 0), true), (.cmp .lss (.lit 0) (.rlen (.rapp 118 (.acons (.rcons (.lit 0) .rnil) (.acons (.rvar 0) (.acons (.rcons (.var 1) .rnil) .anil)))) 1), true), (.cmp .lss (.lit 1000000) (.rlen (.rapp 118 (.acons (.rcons (.lit 0) .rnil) (.acons (.rvar 0) (.acons (.rcons (.var 1) .rnil) .anil)))) 1), false), (.cmp .eql (.app 119 (.acons (.rcons (.lit 1) .rnil) (.acons (.rvar 0) (.acons (.rcons (.var 1) .rnil) .anil)))) (.lit 0), true), (.cmp .lss (.lit 0) (.rlen (.rapp 118 (.acons (.rcons (.lit 1) .rnil) (.acons (.rvar 0) (.acons (.rcons (.var 1) .rnil) .anil)))) 1), true), (.cmp .lss (.lit 1000000) (.rlen (.rapp 118 (.acons (.rcons (.lit 1) .rnil) (.acons (.rvar 0) (.acons (.rcons (.var 1) .rnil) .anil)))) 1), false), (.cmp .eql (.app 119 (.acons (.rcons (.lit 2) .rnil) (.acons (.rvar 0) (.acons (.rcons (.var 1) .rnil) .anil)))) (.lit 0), true), (.cmp .lss (.lit 0) (.rlen (.rapp 118 (.acons (.rcons (.lit 2) .rnil) (.acons (.rvar 0) (.acons (.rcons (.var 1) .rnil) .anil)))) 1), true), (.cmp .lss (.lit 1000000) (.rlen (.rapp 118 (.acons (.rcons (.lit 2) .rnil) (.acons (.rvar 0) (.acons (.rcons (.var 1) .rnil) .anil)))) 1), false), (.not (.cmp .lss (.lit 4096) (.rlen (.rvar 0) 1)), true)], .ret (.tuple [.int .i64 0, .int .i64 3]) ⟨0, .nil⟩), ([(.cmp .lss (.lit 16) (.var 2), true), (.cmp .lss (.var 2) (.lit 1), false), (.cmp .lss (.lit 16) (.var 1), false), (.cmp .lss (.var 1) (.lit 1), false), (.cmp .eql (.app 119 (.acons (.rcons (.lit 0) .rnil) (.acons (.rvar 0) (.acons (.rcons (.var 1) .rnil) .anil)))) (.lit 0), true), (.cmp .lss (.lit 0) (.rlen (.rapp 118 (.acons (.rcons (.lit 0) .rnil) (.acons (.rvar 0) (.acons (.rcons (.var 1) .rnil) .anil)))) 1), true), (.cmp .lss (.lit 1000000) (.rlen (.rapp 118 (.acons (.rcons (.lit 0) .rnil) (.acons (.rvar 0) (.acons (.rcons (.var 1) .rnil) .anil)))) 1), false), (.cmp .eql (.app 119 (.acons (.rcons (.lit 1) .rnil) (.acons (.rvar 0) (.acons (.rcons (.var 1) .rnil) .anil)))) (.lit 0), true), (.cmp .lss (.lit 0) (.rlen (.rapp 118 (.acons (.rcons (.lit 1) .rnil) (.acons (.rvar 0) (.acons (.rcons (.var 1) .rnil) .anil)))) 1), true), (.cmp .lss (.lit 1000000) (.rlen (.rapp 118 (.acons (.rcons (.lit 1) .rnil) (.acons (.rvar 0) (.acons (.rcons (.var 1) .rnil) .anil)))) 1), false), (.cmp .eql (.app 119 (.acons (.rcons (.lit 2) .rnil) (.acons (.rvar 0) (.acons (.rcons (.var 1) .rnil) .anil)))) (.lit 0), true), (.cmp .lss (.lit 0) (.rlen (.rapp 118 (.acons (.rcons (.lit 2) .rnil) (.acons (.rvar 0) (.acons (.rcons (.var 1) .rnil) .anil)))) 1), true), (.cmp .lss (.lit 1000000) (.rlen (.rapp 118 (.acons (.rcons (.lit 2) .rnil) (.acons (.rvar 0) (.acons (.rcons (.var 1) .rnil) .anil)))) 1), false), (.not (.cmp .lss (.lit 4096) (.rlen (.rvar 0) 1)), true)], .ret (.tuple [.int .i64 0, .int .i64 3]) ⟨0, .nil⟩), ([(.cmp .lss (.app 103 (.acons (.rapp 118 (.acons (.rcons (.lit 2) .rnil) (.acons (.rvar 0) (.acons (.rcons (.var 1) .rnil) .anil)))) .anil)) (.app 103 (.acons (.rapp 118 (.acons (.rcons (.lit 1) .rnil) (.acons (.rvar 0) (.acons (.rcons (.var 1) .rnil) .anil)))) .anil)), true), (.cmp .lss (.app 103 (.acons (.rapp 118 (.acons (.rcons (.lit 1) .rnil) (.acons (.rvar 0) (.acons (.rcons (.var 1) .rnil) .anil)))) .anil)) (.app 103 (.acons (.rapp 118 (.acons (.rcons (.lit 0) .rnil) (.acons (.rvar 0) (.acons (.rcons (.var 1) .rnil) .anil)))) .anil)), true), (.cmp .eql (.rlen (.rvar 0) 1) (.bin .mul .i64 (.var 1) (.var 2)), true), (.cmp .lss (.lit 16) (.var 2), false), (.cmp .lss (.var 2) (.lit 1), false), (.cmp .lss (.lit 16) (.var 1), false), (.cmp .lss (.var 1) (.lit 1), false), (.cmp .eql (.app 119 (.acons (.rcons (.lit 0) .rnil) (.acons (.rvar 0) (.acons (.rcons (.var 1) .rnil) .anil)))) (.lit 0), true), (.cmp .lss (.lit 0) (.rlen (.rapp 118 (.acons (.rcons (.lit 0) .rnil) (.acons (.rvar 0) (.acons (.rcons (.var 1) .rnil) .anil)))) 1), true), (.cmp .lss (.lit 1000000) (.rlen (.rapp 118 (.acons (.rcons (.lit 0) .rnil) (.acons (.rvar 0) (.acons (.rcons (.var 1) .rnil) .anil)))) 1), false), (.cmp .eql (.app 119 (.acons (.rcons (.lit 1) .rnil) (.acons (.rvar 0) (.acons (.rcons (.var 1) .rnil) .anil)))) (.lit 0), true), (.cmp .lss (.lit 0) (.rlen (.rapp 118 (.acons (.rcons (.lit 1) .rnil) (.acons (.rvar 0) (.acons (.rcons (.var 1) .rnil) .anil)))) 1), true), (.cmp .lss (.lit 1000000) (.rlen (.rapp 118 (.acons (.rcons (.lit 1) .rnil) (.acons (.rvar 0) (.acons (.rcons (.var 1) .rnil) .anil)))) 1), false), (.cmp .eql (.app 119 (.acons (.rcons (.lit 2) .rnil) (.acons (.rvar 0) (.acons (.rcons (.var 1) .rnil) .anil)))) (.lit 0), true), (.cmp .lss (.lit 0) (.rlen (.rapp 118 (.acons (.rcons (.lit 2) .rnil) (.acons (.rvar 0) (.acons (.rcons (.var 1) .rnil) .anil)))) 1), true), (.cmp .lss (.lit 1000000) (.rlen (.rapp 118 (.acons (.rcons (.lit 2) .rnil) (.acons (.rvar 0) (.acons (.rcons (.var 1) .rnil) .anil)))) 1), false), (.not (.cmp .lss (.lit 4096) (.rlen (.rvar 0) 1)), true)], .ret (.tuple [.int .i64 2, .int .i64 0]) ⟨0, .nil⟩), ([(.cmp .lss (.app 103 (.acons (.rapp 118 (.acons (.rcons (.lit 2) .rnil) (.acons (.rvar 0) (.acons (.rcons (.var 1) .rnil) .anil)))) .anil)) (.app 103 (.acons (.rapp 118 (.acons (.rcons (.lit 1) .rnil) (.acons (.rvar 0) (.acons (.rcons (.var 1) .rnil) .anil)))) .anil)), false), (.cmp .lss (.app 103 (.acons (.rapp 118 (.acons (.rcons (.lit 1) .rnil) (.acons (.rvar 0) (.acons (.rcons (.var 1) .rnil) .anil)))) .anil)) (.app 103 (.acons (.rapp 118 (.acons (.rcons (.lit 0) .rnil) (.acons (.rvar 0) (.acons (.rcons (.var 1) .rnil) .anil)))) .anil)), true), (.cmp .eql (.rlen (.rvar 0) 1) (.bin .mul .i64 (.var 1) (.var 2)), true), (.cmp .lss (.lit 16) (.var 2), false), (.cmp .lss (.var 2) (.lit 1), false), (.cmp .lss (.lit 16) (.var 1), false), (.cmp .lss (.var 1) (.lit 1), false), (.cmp .eql (.app 119 (.acons (.rcons (.lit 0) .rnil) (.acons (.rvar 0) (.acons (.rcons (.var 1) .rnil) .anil)))) (.lit 0), true), (.cmp .lss (.lit 0) (.rlen (.rapp 118 (.acons (.rcons (.lit 0) .rnil) (.acons (.rvar 0) (.acons (.rcons (.var 1) .rnil) .anil)))) 1), true), (.cmp .lss (.lit 1000000) (.rlen (.rapp 118 (.acons (.rcons (.lit 0) .rnil) (.acons (.rvar 0) (.acons (.rcons (.var 1) .rnil) .anil)))) 1), false), (.cmp .eql (.app 119 (.acons (.rcons (.lit 1) .rnil) (.acons (.rvar 0) (.acons (.rcons (.var 1) .rnil) .anil)))) (.lit 0), true), (.cmp .lss (.lit 0) (.rlen (.rapp 118 (.acons (.rcons (.lit 1) .rnil) (.acons (.rvar 0) (.acons (.rcons (.var 1) .rnil) .anil)))) 1), true), (.cmp .lss (.lit 1000000) (.rlen (.rapp 118 (.acons (.rcons (.lit 1) .rnil) (.acons (.rvar 0) (.acons (.rcons (.var 1) .rnil) .anil)))) 1), false), (.cmp .eql (.app 119 (.acons (.rcons (.lit 2) .rnil) (.acons (.rvar 0) (.acons (.rcons (.var 1) .rnil) .anil)))) (.lit 0), true), (.cmp .lss (.lit 0) (.rlen (.rapp 118 (.acons (.rcons (.lit 2) .rnil) (.acons (.rvar 0) (.acons (.rcons (.var 1) .rnil) .anil)))) 1), true), (.cmp .lss (.lit 1000000) (.rlen (.rapp 118 (.acons (.rcons (.lit 2) .rnil) (.acons (.rvar 0) (.acons (.rcons (.var 1) .rnil) .anil)))) 1), false), (.not (.cmp .lss (.lit 4096) (.rlen (.rvar 0) 1)), true)], .ret (.tuple [.int .i64 1, .int .i64 0]) ⟨0, .nil⟩), ([(.cmp .lss (.app 103 (.acons (.rapp 118 (.acons (.rcons (.lit 2) .rnil) (.acons (.rvar 0) (.acons (.rcons (.var 1) .rnil) .anil)))) .anil)) (.app 103 (.acons (.rapp 118 (.acons (.rcons (.lit 0) .rnil) (.acons (.rvar 0) (.acons (.rcons (.var 1) .rnil) .anil)))) .anil)), true), (.cmp .lss (.app 103 (.acons (.rapp 118 (.acons (.rcons (.lit 1) .rnil) (.acons (.rvar 0) (.acons (.rcons (.var 1) .rnil) .anil)))) .anil)) (.app 103 (.acons (.rapp 118 (.acons (.rcons (.lit 0) .rnil) (.acons (.rvar 0) (.acons (.rcons (.var 1) .rnil) .anil)))) .anil)), false), (.cmp .eql (.rlen (.rvar 0) 1) (.bin .mul .i64 (.var 1) (.var 2)), true), (.cmp .lss (.lit 16) (.var 2), false), (.cmp .lss (.var 2) (.lit 1), false), (.cmp .lss (.lit 16) (.var 1), false), (.cmp .lss (.var 1) (.lit 1), false), (.cmp .eql (.app 119 (.acons (.rcons (.lit 0) .rnil) (.acons (.rvar 0) (.acons (.rcons (.var 1) .rnil) .anil)))) (.lit 0), true), (.cmp .lss (.lit 0) (.rlen (.rapp 118 (.acons (.rcons (.lit 0) .rnil) (.acons (.rvar 0) (.acons (.rcons (.var 1) .rnil) .anil)))) 1), true), (.cmp .lss (.lit 1000000) (.rlen (.rapp 118 (.acons (.rcons (.lit 0) .rnil) (.acons (.rvar 0) (.acons (.rcons (.var 1) .rnil) .anil)))) 1), false), (.cmp .eql (.app 119 (.acons (.rcons (.lit 1) .rnil) (.acons (.rvar 0) (.acons (.rcons (.var 1) .rnil) .anil)))) (.lit 0), true), (.cmp .lss (.lit 0) (.rlen (.rapp 118 (.acons (.rcons (.lit 1) .rnil) (.acons (.rvar 0) (.acons (.rcons (.var 1) .rnil) .anil)))) 1), true), (.cmp .lss (.lit 1000000) (.rlen (.rapp 118 (.acons (.rcons (.lit 1) .rnil) (.acons (.rvar 0) (.acons (.rcons (.var 1) .rnil) .anil)))) 1), false), (.cmp .eql (.app 119 (.acons (.rcons (.lit 2) .rnil) (.acons (.rvar 0) (.acons (.rcons (.var 1) .rnil) .anil)))) (.lit 0), true), (.cmp .lss (.lit 0) (.rlen (.rapp 118 (.acons (.rcons (.lit 2) .rnil) (.acons (.rvar 0) (.acons (.rcons (.var 1) .rnil) .anil)))) 1), true), (.cmp .lss (.lit 1000000) (.rlen (.rapp 118 (.acons (.rcons (.lit 2) .rnil) (.acons (.rvar 0) (.acons (.rcons (.var 1) .rnil) .anil)))) 1), false), (.not (.cmp .lss (.lit 4096) (.rlen (.rvar 0) 1)), true)], .ret (.tuple [.int .i64 2, .int .i64 0]) ⟨0, .nil⟩), ([(.cmp .lss (.app 103 (.acons (.rapp 118 (.acons (.rcons (.lit 2) .rnil) (.acons (.rvar 0) (.acons (.rcons (.var 1) .rnil) .anil)))) .anil)) (.app 103 (.acons (.rapp 118 (.acons (.rcons (.lit 0) .rnil) (.acons (.rvar 0) (.acons (.rcons (.var 1) .rnil) .anil)))) .anil)), false), (.cmp .lss (.app 103 (.acons (.rapp 118 (.acons (.rcons (.lit 1) .rnil) (.acons (.rvar 0) (.acons (.rcons (.var 1) .rnil) .anil)))) .anil)) (.app 103 (.acons (.rapp 118 (.acons (.rcons (.lit 0) .rnil) (.acons (.rvar 0) (.acons (.rcons (.var 1) .rnil) .anil)))) .anil)), false), (.cmp .eql (.rlen (.rvar 0) 1) (.bin .mul .i64 (.var 1) (.var 2)), true), (.cmp .lss (.lit 16) (.var 2), false), (.cmp .lss (.var 2) (.lit 1), false), (.cmp .lss (.lit 16) (.var 1), false), (.cmp .lss (.var 1) (.lit 1), false), (.cmp .eql (.app 119 (.acons (.rcons (.lit 0) .rnil) (.acons (.rvar 0) (.acons (.rcons (.var 1) .rnil) .anil)))) (.lit 0), true), (.cmp .lss (.lit 0) (.rlen (.rapp 118 (.acons (.rcons (.lit 0) .rnil) (.acons (.rvar 0) (.acons (.rcons (.var 1) .rnil) .anil)))) 1), true), (.cmp .lss (.lit 1000000) (.rlen (.rapp 118 (.acons (.rcons (.lit 0) .rnil) (.acons (.rvar 0) (.acons (.rcons (.var 1) .rnil) .anil)))) 1), false), (.cmp .eql (.app 119 (.acons (.rcons (.lit 1) .rnil) (.acons (.rvar 0) (.acons (.rcons (.var 1) .rnil) .anil)))) (.lit 0), true), (.cmp .lss (.lit 0) (.rlen (.rapp 118 (.acons (.rcons (.lit 1) .rnil) (.acons (.rvar 0) (.acons (.rcons (.var 1) .rnil) .anil)))) 1), true), (.cmp .lss (.lit 1000000) (.rlen (.rapp 118 (.acons (.rcons (.lit 1) .rnil) (.acons (.rvar 0) (.acons (.rcons (.var 1) .rnil) .anil)))) 1), false), (.cmp .eql (.app 119 (.acons (.rcons (.lit 2) .rnil) (.acons (.rvar 0) (.acons (.rcons (.var 1) .rnil) .anil)))) (.lit 0), true), (.cmp .lss (.lit 0) (.rlen (.rapp 118 (.acons (.rcons (.lit 2) .rnil) (.acons (.rvar 0) (.acons (.rcons (.var 1) .rnil) .anil)))) 1), true), (.cmp .lss (.lit 1000000) (.rlen (.rapp 118 (.acons (.rcons (.lit 2) .rnil) (.acons (.rvar 0) (.acons (.rcons (.var 1) .rnil) .anil)))) 1), false), (.not (.cmp .lss (.lit 4096) (.rlen (.rvar 0) 1)), true)], .ret (.tuple [.int .i64 0, .int .i64 0]) ⟨0, .nil⟩), ([(.cmp .eql (.rlen (.rvar 0) 1) (.bin .mul .i64 (.var 1) (.var 2)), false), (.cmp .lss (.lit 16) (.var 2), false), (.cmp .lss (.var 2) (.lit 1), false), (.cmp .lss (.lit 16) (.var 1), false), (.cmp .lss (.var 1) (.lit 1), false), (.cmp .eql (.app 119 (.acons (.rcons (.lit 0) .rnil) (.acons (.rvar 0) (.acons (.rcons (.var 1) .rnil) .anil)))) (.lit 0), true), (.cmp .lss (.lit 0) (.rlen (.rapp 118 (.acons (.rcons (.lit 0) .rnil) (.acons (.rvar 0) (.acons (.rcons (.var 1) .rnil) .anil)))) 1), true), (.cmp .lss (.lit 1000000) (.rlen (.rapp 118 (.acons (.rcons (.lit 0) .rnil) (.acons (.rvar 0) (.acons (.rcons (.var 1) .rnil) .anil)))) 1), false), (.cmp .eql (.app 119 (.acons (.rcons (.lit 1) .rnil) (.acons (.rvar 0) (.acons (.rcons (.var 1) .rnil) .anil)))) (.lit 0), true), (.cmp .lss (.lit 0) (.rlen (.rapp 118 (.acons (.rcons (.lit 1) .rnil) (.acons (.rvar 0) (.acons (.rcons (.var 1) .rnil) .anil)))) 1), true), (.cmp .lss (.lit 1000000) (.rlen (.rapp 118 (.acons (.rcons (.lit 1) .rnil) (.acons (.rvar 0) (.acons (.rcons (.var 1) .rnil) .anil)))) 1), false), (.cmp .eql (.app 119 (.acons (.rcons (.lit 2) .rnil) (.acons (.rvar 0) (.acons (.rcons (.var 1) .rnil) .anil)))) (.lit 0), true), (.cmp .lss (.lit 0) (.rlen (.rapp 118 (.acons (.rcons (.lit 2) .rnil) (.acons (.rvar 0) (.acons (.rcons (.var 1) .rnil) .anil)))) 1), true), (.cmp .lss (.lit 1000000) (.rlen (.rapp 118 (.acons (.rcons (.lit 2) .rnil) (.acons (.rvar 0) (.acons (.rcons (.var 1) .rnil) .anil)))) 1), false), (.not (.cmp .lss (.lit 4096) (.rlen (.rvar 0) 1)), true)], .ret (.tuple [.int .i64 0, .int .i64 6]) ⟨0, .nil⟩)] := by kernel_rfl

theorem tbest_3 : entryK Try.prog [pcRestsP.ct, pcRLen.ct] 50 900 33 [] 3 (argSVs 0 akTB) 16 [(.cmp .eql (.rlen (.rvar 0) 1) (.bin .mul .i64 (.var 1) (.var 2)), false), lenB] = some [([(.cmp .lss (.var 1) (.lit 1), true), (.cmp .eql (.rlen (.rvar 0) 1) (.bin .mul .i64 (.var 1) (.var 2)), false), (.not (.cmp .lss (.lit 4096) (.rlen (.rvar 0) 1)), true)], .ret (.tuple [.int .i64 0, .int .i64 3]) ⟨0, .nil⟩), ([(.cmp .lss (.lit 16) (.var 1), true), (.cmp .lss (.var 1) (.lit 1), false), (.cmp .eql (.rlen (.rvar 0) 1) (.bin .mul .i64 (.var 1) (.var 2)), false), (.not (.cmp .lss (.lit 4096) (.rlen (.rvar 0) 1)), true)], .ret (.tuple [.int .i64 0, .int .i64 3]) ⟨0, .nil⟩), ([(.cmp .lss (.var 2) (.lit 1), true), (.cmp .lss (.lit 16) (.var 1), false), (.cmp .lss (.var 1) (.lit 1), false), (.cmp .eql (.rlen (.rvar 0) 1) (.bin .mul .i64 (.var 1) (.var 2)), false), (.not (.cmp .lss (.lit 4096) (.rlen (.rvar 0) 1)), true)], .ret (.tuple [.int .i64 0, .int .i64 3]) ⟨0, .nil⟩), ([(.cmp .lss (.lit 16) (.var 2), true), (.cmp .lss (.var 2) (.lit 1), false), (.cmp .lss (.lit 16) (.var 1), false), (.cmp .lss (.var 1) (.lit 1), false), (.cmp .eql (.rlen (.rvar 0) 1) (.bin .mul .i64 (.var 1) (.var 2)), false), (.not (.cmp .lss (.lit 4096) (.rlen (.rvar 0) 1)), true)], .ret (.tuple [.int .i64 0, .int .i64 3]) ⟨0, .nil⟩), ([(.cmp .lss (.lit 16) (.var 2), false), (.cmp .lss (.var 2) (.lit 1), false), (.cmp .lss (.lit 16) (.var 1), false), (.cmp .lss (.var 1) (.lit 1), false), (.cmp .eql (.rlen (.rvar 0) 1) (.bin .mul .i64 (.var 1) (.var 2)), false), (.not (.cmp .lss (.lit 4096) (.rlen (.rvar 0) 1)), true)], .ret (.tuple [.int .i64 0, .int .i64 6]) ⟨0, .nil⟩)] := by kernel_rfl

theorem tbest_s0 : entryK Try.prog [pcRestsP.ct, pcRLen.ct] 50 900 33 [] 3 (argSVs 0 akTB) 16 [ltR (.var 1) (.lit 1) true, lenB] = some [([(.cmp .lss (.var 1) (.lit 1), true), (.not (.cmp .lss (.lit 4096) (.rlen (.rvar 0) 1)), true)], .ret (.tuple [.int .i64 0, .int .i64 3]) ⟨0, .nil⟩)] := by kernel_rfl

theorem tbest_s1 : entryK Try.prog [pcRestsP.ct, pcRLen.ct] 50 900 33 [] 3 (argSVs 0 akTB) 16 [ltR (.lit 16) (.var 1) true, lenB] = some [([(.cmp .lss (.lit 16) (.var 1), true), (.not (.cmp .lss (.lit 4096) (.rlen (.rvar 0) 1)), true)], .ret (.tuple [.int .i64 0, .int .i64 3]) ⟨0, .nil⟩)] := by kernel_rfl

theorem tbest_s2 : entryK Try.prog [pcRestsP.ct, pcRLen.ct] 50 900 33 [] 3 (argSVs 0 akTB) 16 [ltR (.var 2) (.lit 1) true, lenB] = some [([(.cmp .lss (.var 1) (.lit 1), true), (.cmp .lss (.var 2) (.lit 1), true), (.not (.cmp .lss (.lit 4096) (.rlen (.rvar 0) 1)), true)], .ret (.tuple [.int .i64 0, .int .i64 3]) ⟨0, .nil⟩), ([(.cmp .lss (.lit 16) (.var 1), true), (.cmp .lss (.var 1) (.lit 1), false), (.cmp .lss (.var 2) (.lit 1), true), (.not (.cmp .lss (.lit 4096) (.rlen (.rvar 0) 1)), true)], .ret (.tuple [.int .i64 0, .int .i64 3]) ⟨0, .nil⟩), ([(.cmp .lss (.lit 16) (.var 1), false), (.cmp .lss (.var 1) (.lit 1), false), (.cmp .lss (.var 2) (.lit 1), true), (.not (.cmp .lss (.lit 4096) (.rlen (.rvar 0) 1)), true)], .ret (.tuple [.int .i64 0, .int .i64 3]) ⟨0, .nil⟩)] := by kernel_rfl

theorem tbest_s3 : entryK Try.prog [pcRestsP.ct, pcRLen.ct] 50 900 33 [] 3 (argSVs 0 akTB) 16 [ltR (.lit 16) (.var 2) true, lenB] = some [([(.cmp .lss (.var 1) (.lit 1), true), (.cmp .lss (.lit 16) (.var 2), true), (.not (.cmp .lss (.lit 4096) (.rlen (.rvar 0) 1)), true)], .ret (.tuple [.int .i64 0, .int .i64 3]) ⟨0, .nil⟩), ([(.cmp .lss (.lit 16) (.var 1), true), (.cmp .lss (.var 1) (.lit 1), false), (.cmp .lss (.lit 16) (.var 2), true), (.not (.cmp .lss (.lit 4096) (.rlen (.rvar 0) 1)), true)], .ret (.tuple [.int .i64 0, .int .i64 3]) ⟨0, .nil⟩), ([(.cmp .lss (.lit 16) (.var 1), false), (.cmp .lss (.var 1) (.lit 1), false), (.cmp .lss (.lit 16) (.var 2), true), (.not (.cmp .lss (.lit 4096) (.rlen (.rvar 0) 1)), true)], .ret (.tuple [.int .i64 0, .int .i64 3]) ⟨0, .nil⟩)] := by kernel_rfl

abbrev tsB (k : Int) : IE := .rapp 120 (.acons (.rcons (.lit k) .rnil) (.acons (.rvar 0) (.acons (.rcons (.var 1) .rnil) (.acons (.rcons (.var 2) .rnil) .anil))))
abbrev tcB (k : Int) : IE := .app 121 (.acons (.rcons (.lit k) .rnil) (.acons (.rvar 0) (.acons (.rcons (.var 1) .rnil) (.acons (.rcons (.var 2) .rnil) .anil))))
abbrev rowD (k : Int) : As := [(.cmp .eql (tcB k) (.lit 0), true), ltR (.lit 0) (.rlen (tsB k) 1) true, ltR (.lit 1000000) (.rlen (tsB k) 1) false]

theorem tbestD_1 : entryK Try.prog [pcTD.ct] 50 900 34 [] 3 (argSVs 0 akTB) 16 [(.cmp .eql (tcB 0) (.lit 0), false), ltR (.lit 0) (.rlen (tsB 0) 1) false, lenB] = some [([(.cmp .eql (.app 121 (.acons (.rcons (.lit 0) .rnil) (.acons (.rvar 0) (.acons (.rcons (.var 1) .rnil) (.acons (.rcons (.var 2) .rnil) .anil))))) (.lit 0), false), (.cmp .lss (.lit 0) (.rlen (.rapp 120 (.acons (.rcons (.lit 0) .rnil) (.acons (.rvar 0) (.acons (.rcons (.var 1) .rnil) (.acons (.rcons (.var 2) .rnil) .anil))))) 1), false), (.not (.cmp .lss (.lit 4096) (.rlen (.rvar 0) 1)), true)], .ret (.tuple [.int .i64 0, .sint .i64 (.app 121 (.acons (.rcons (.lit 0) .rnil) (.acons (.rvar 0) (.acons (.rcons (.var 1) .rnil) (.acons (.rcons (.var 2) .rnil) .anil)))))]) ⟨0, .nil⟩)] := by kernel_rfl

theorem tbestD_2 : entryK Try.prog [pcTD.ct] 50 900 34 [] 3 (argSVs 0 akTB) 16 (rowD 0 ++ rowD 1 ++ rowD 2 ++ [lenB, ltR (.rlen (tsB 0) 1) (.lit 1000000) true]) = some [([(.cmp .lss (.rlen (.rapp 120 (.acons (.rcons (.lit 2) .rnil) (.acons (.rvar 0) (.acons (.rcons (.var 1) .rnil) (.acons (.rcons (.var 2) .rnil) .anil))))) 1) (.rlen (.rapp 120 (.acons (.rcons (.lit 1) .rnil) (.acons (.rvar 0) (.acons (.rcons (.var 1) .rnil) (.acons (.rcons (.var 2) .rnil) .anil))))) 1), true), (.cmp .lss (.rlen (.rapp 120 (.acons (.rcons (.lit 1) .rnil) (.acons (.rvar 0) (.acons (.rcons (.var 1) .rnil) (.acons (.rcons (.var 2) .rnil) .anil))))) 1) (.rlen (.rapp 120 (.acons (.rcons (.lit 0) .rnil) (.acons (.rvar 0) (.acons (.rcons (.var 1) .rnil) (.acons (.rcons (.var 2) .rnil) .anil))))) 1), true), (.cmp .eql (.app 121 (.acons (.rcons (.lit 0) .rnil) (.acons (.rvar 0) (.acons (.rcons (.var 1) .rnil) (.acons (.rcons (.var 2) .rnil) .anil))))) (.lit 0), true), (.cmp .lss (.lit 0) (.rlen (.rapp 120 (.acons (.rcons (.lit 0) .rnil) (.acons (.rvar 0) (.acons (.rcons (.var 1) .rnil) (.acons (.rcons (.var 2) .rnil) .anil))))) 1), true), (.cmp .lss (.lit 1000000) (.rlen (.rapp 120 (.acons (.rcons (.lit 0) .rnil) (.acons (.rvar 0) (.acons (.rcons (.var 1) .rnil) (.acons (.rcons (.var 2) .rnil) .anil))))) 1), false), (.cmp .eql (.app 121 (.acons (.rcons (.lit 1) .rnil) (.acons (.rvar 0) (.acons (.rcons (.var 1) .rnil) (.acons (.rcons (.var 2) .rnil) .anil))))) (.lit 0), true), (.cmp .lss (.lit 0) (.rlen (.rapp 120 (.acons (.rcons (.lit 1) .rnil) (.acons (.rvar 0) (.acons (.rcons (.var 1) .rnil) (.acons (.rcons (.var 2) .rnil) .anil))))) 1), true), (.cmp .lss (.lit 1000000) (.rlen (.rapp 120 (.acons (.rcons (.lit 1) .rnil) (.acons (.rvar 0) (.acons (.rcons (.var 1) .rnil) (.acons (.rcons (.var 2) .rnil) .anil))))) 1), false), (.cmp .eql (.app 121 (.acons (.rcons (.lit 2) .rnil) (.acons (.rvar 0) (.acons (.rcons (.var 1) .rnil) (.acons (.rcons (.var 2) .rnil) .anil))))) (.lit 0), true), (.cmp .lss (.lit 0) (.rlen (.rapp 120 (.acons (.rcons (.lit 2) .rnil) (.acons (.rvar 0) (.acons (.rcons (.var 1) .rnil) (.acons (.rcons (.var 2) .rnil) .anil))))) 1), true), (.cmp .lss (.lit 1000000) (.rlen (.rapp 120 (.acons (.rcons (.lit 2) .rnil) (.acons (.rvar 0) (.acons (.rcons (.var 1) .rnil) (.acons (.rcons (.var 2) .rnil) .anil))))) 1), false), (.not (.cmp .lss (.lit 4096) (.rlen (.rvar 0) 1)), true), (.cmp .lss (.rlen (.rapp 120 (.acons (.rcons (.lit 0) .rnil) (.acons (.rvar 0) (.acons (.rcons (.var 1) .rnil) (.acons (.rcons (.var 2) .rnil) .anil))))) 1) (.lit 1000000), true)], .ret (.tuple [.int .i64 2, .int .i64 0]) ⟨0, .nil⟩), ([(.cmp .lss (.rlen (.rapp 120 (.acons (.rcons (.lit 2) .rnil) (.acons (.rvar 0) (.acons (.rcons (.var 1) .rnil) (.acons (.rcons (.var 2) .rnil) .anil))))) 1) (.rlen (.rapp 120 (.acons (.rcons (.lit 1) .rnil) (.acons (.rvar 0) (.acons (.rcons (.var 1) .rnil) (.acons (.rcons (.var 2) .rnil) .anil))))) 1), false), (.cmp .lss (.rlen (.rapp 120 (.acons (.rcons (.lit 1) .rnil) (.acons (.rvar 0) (.acons (.rcons (.var 1) .rnil) (.acons (.rcons (.var 2) .rnil) .anil))))) 1) (.rlen (.rapp 120 (.acons (.rcons (.lit 0) .rnil) (.acons (.rvar 0) (.acons (.rcons (.var 1) .rnil) (.acons (.rcons (.var 2) .rnil) .anil))))) 1), true), (.cmp .eql (.app 121 (.acons (.rcons (.lit 0) .rnil) (.acons (.rvar 0) (.acons (.rcons (.var 1) .rnil) (.acons (.rcons (.var 2) .rnil) .anil))))) (.lit 0), true), (.cmp .lss (.lit 0) (.rlen (.rapp 120 (.acons (.rcons (.lit 0) .rnil) (.acons (.rvar 0) (.acons (.rcons (.var 1) .rnil) (.acons (.rcons (.var 2) .rnil) .anil))))) 1), true), (.cmp .lss (.lit 1000000) (.rlen (.rapp 120 (.acons (.rcons (.lit 0) .rnil) (.acons (.rvar 0) (.acons (.rcons (.var 1) .rnil) (.acons (.rcons (.var 2) .rnil) .anil))))) 1), false), (.cmp .eql (.app 121 (.acons (.rcons (.lit 1) .rnil) (.acons (.rvar 0) (.acons (.rcons (.var 1) .rnil) (.acons (.rcons (.var 2) .rnil) .anil))))) (.lit 0), true), (.cmp .lss (.lit 0) (.rlen (.rapp 120 (.acons (.rcons (.lit 1) .rnil) (.acons (.rvar 0) (.acons (.rcons (.var 1) .rnil) (.acons (.rcons (.var 2) .rnil) .anil))))) 1), true), (.cmp .lss (.lit 1000000) (.rlen (.rapp 120 (.acons (.rcons (.lit 1) .rnil) (.acons (.rvar 0) (.acons (.rcons (.var 1) .rnil) (.acons (.rcons (.var 2) .rnil) .anil))))) 1), false), (.cmp .eql (.app 121 (.acons (.rcons (.lit 2) .rnil) (.acons (.rvar 0) (.acons (.rcons (.var 1) .rnil) (.acons (.rcons (.var 2) .rnil) .anil))))) (.lit 0), true), (.cmp .lss (.lit 0) (.rlen (.rapp 120 (.acons (.rcons (.lit 2) .rnil) (.acons (.rvar 0) (.acons (.rcons (.var 1) .rnil) (.acons (.rcons (.var 2) .rnil) .anil))))) 1), true), (.cmp .lss (.lit 1000000) (.rlen (.rapp 120 (.acons (.rcons (.lit 2) .rnil) (.acons (.rvar 0) (.acons (.rcons (.var 1) .rnil) (.acons (.rcons (.var 2) .rnil) .anil))))) 1), false), (.not (.cmp .lss (.lit 4096) (.rlen (.rvar 0) 1)), true), (.cmp .lss (.rlen (.rapp 120 (.acons (.rcons (.lit 0) .rnil) (.acons (.rvar 0) (.acons (.rcons (.var 1) .rnil) (.acons (.rcons (.var 2) .rnil) .anil))))) 1) (.lit 1000000), true)], .ret (.tuple [.int .i64 1, .int .i64 0]) ⟨0, .nil⟩), ([(.cmp .lss (.rlen (.rapp 120 (.acons (.rcons (.lit 2) .rnil) (.acons (.rvar 0) (.acons (.rcons (.var 1) .rnil) (.acons (.rcons (.var 2) .rnil) .anil))))) 1) (.rlen (.rapp 120 (.acons (.rcons (.lit 0) .rnil) (.acons (.rvar 0) (.acons (.rcons (.var 1) .rnil) (.acons (.rcons (.var 2) .rnil) .anil))))) 1), true), (.cmp .lss (.rlen (.rapp 120 (.acons (.rcons (.lit 1) .rnil) (.acons (.rvar 0) (.acons (.rcons (.var 1) .rnil) (.acons (.rcons (.var 2) .rnil) .anil))))) 1) (.rlen (.rapp 120 (.acons (.rcons (.lit 0) .rnil) (.acons (.rvar 0) (.acons (.rcons (.var 1) .rnil) (.acons (.rcons (.var 2) .rnil) .anil))))) 1), false), (.cmp .eql (.app 121 (.acons (.rcons (.lit 0) .rnil) (.acons (.rvar 0) (.acons (.rcons (.var 1) .rnil) (.acons (.rcons (.var 2) .rnil) .anil))))) (.lit 0), true), (.cmp .lss (.lit 0) (.rlen (.rapp 120 (.acons (.rcons (.lit 0) .rnil) (.acons (.rvar 0) (.acons (.rcons (.var 1) .rnil) (.acons (.rcons (.var 2) .rnil) .anil))))) 1), true), (.cmp .lss (.lit 1000000) (.rlen (.rapp 120 (.acons (.rcons (.lit 0) .rnil) (.acons (.rvar 0) (.acons (.rcons (.var 1) .rnil) (.acons (.rcons (.var 2) .rnil) .anil))))) 1), false), (.cmp .eql (.app 121 (.acons (.rcons (.lit 1) .rnil) (.acons (.rvar 0) (.acons (.rcons (.var 1) .rnil) (.acons (.rcons (.var 2) .rnil) .anil))))) (.lit 0), true), (.cmp .lss (.lit 0) (.rlen (.rapp 120 (.acons (.rcons (.lit 1) .rnil) (.acons (.rvar 0) (.acons (.rcons (.var 1) .rnil) (.acons (.rcons (.var 2) .rnil) .anil))))) 1), true), (.cmp .lss (.lit 1000000) (.rlen (.rapp 120 (.acons (.rcons (.lit 1) .rnil) (.acons (.rvar 0) (.acons (.rcons (.var 1) .rnil) (.acons (.rcons (.var 2) .rnil) .anil))))) 1), false), (.cmp .eql (.app 121 (.acons (.rcons (.lit 2) .rnil) (.acons (.rvar 0) (.acons (.rcons (.var 1) .rnil) (.acons (.rcons (.var 2) .rnil) .anil))))) (.lit 0), true), (.cmp .lss (.lit 0) (.rlen (.rapp 120 (.acons (.rcons (.lit 2) .rnil) (.acons (.rvar 0) (.acons (.rcons (.var 1) .rnil) (.acons (.rcons (.var 2) .rnil) .anil))))) 1), true), (.cmp .lss (.lit 1000000) (.rlen (.rapp 120 (.acons (.rcons (.lit 2) .rnil) (.acons (.rvar 0) (.acons (.rcons (.var 1) .rnil) (.acons (.rcons (.var 2) .rnil) .anil))))) 1), false), (.not (.cmp .lss (.lit 4096) (.rlen (.rvar 0) 1)), true), (.cmp .lss (.rlen (.rapp 120 (.acons (.rcons (.lit 0) .rnil) (.acons (.rvar 0) (.acons (.rcons (.var 1) .rnil) (.acons (.rcons (.var 2) .rnil) .anil))))) 1) (.lit 1000000), true)], .ret (.tuple [.int .i64 2, .int .i64 0]) ⟨0, .nil⟩), ([(.cmp .lss (.rlen (.rapp 120 (.acons (.rcons (.lit 2) .rnil) (.acons (.rvar 0) (.acons (.rcons (.var 1) .rnil) (.acons (.rcons (.var 2) .rnil) .anil))))) 1) (.rlen (.rapp 120 (.acons (.rcons (.lit 0) .rnil) (.acons (.rvar 0) (.acons (.rcons (.var 1) .rnil) (.acons (.rcons (.var 2) .rnil) .anil))))) 1), false), (.cmp .lss (.rlen (.rapp 120 (.acons (.rcons (.lit 1) .rnil) (.acons (.rvar 0) (.acons (.rcons (.var 1) .rnil) (.acons (.rcons (.var 2) .rnil) .anil))))) 1) (.rlen (.rapp 120 (.acons (.rcons (.lit 0) .rnil) (.acons (.rvar 0) (.acons (.rcons (.var 1) .rnil) (.acons (.rcons (.var 2) .rnil) .anil))))) 1), false), (.cmp .eql (.app 121 (.acons (.rcons (.lit 0) .rnil) (.acons (.rvar 0) (.acons (.rcons (.var 1) .rnil) (.acons (.rcons (.var 2) .rnil) .anil))))) (.lit 0), true), (.cmp .lss (.lit 0) (.rlen (.rapp 120 (.acons (.rcons (.lit 0) .rnil) (.acons (.rvar 0) (.acons (.rcons (.var 1) .rnil) (.acons (.rcons (.var 2) .rnil) .anil))))) 1), true), (.cmp .lss (.lit 1000000) (.rlen (.rapp 120 (.acons (.rcons (.lit 0) .rnil) (.acons (.rvar 0) (.acons (.rcons (.var 1) .rnil) (.acons (.rcons (.var 2) .rnil) .anil))))) 1), false), (.cmp .eql (.app 121 (.acons (.rcons (.lit 1) .rnil) (.acons (.rvar 0) (.acons (.rcons (.var 1) .rnil) (.acons (.rcons (.var 2) .rnil) .anil))))) (.lit 0), true), (.cmp .lss (.lit 0) (.rlen (.rapp 120 (.acons (.rcons (.lit 1) .rnil) (.acons (.rvar 0) (.acons (.rcons (.var 1) .rnil) (.acons (.rcons (.var 2) .rnil) .anil))))) 1), true), (.cmp .lss (.lit 1000000) (.rlen (.rapp 120 (.acons (.rcons (.lit 1) .rnil) (.acons (.rvar 0) (.acons (.rcons (.var 1) .rnil) (.acons (.rcons (.var 2) .rnil) .anil))))) 1), false), (.cmp .eql (.app 121 (.acons (.rcons (.lit 2) .rnil) (.acons (.rvar 0) (.acons (.rcons (.var 1) .rnil) (.acons (.rcons (.var 2) .rnil) .anil))))) (.lit 0), true), (.cmp .lss (.lit 0) (.rlen (.rapp 120 (.acons (.rcons (.lit 2) .rnil) (.acons (.rvar 0) (.acons (.rcons (.var 1) .rnil) (.acons (.rcons (.var 2) .rnil) .anil))))) 1), true), (.cmp .lss (.lit 1000000) (.rlen (.rapp 120 (.acons (.rcons (.lit 2) .rnil) (.acons (.rvar 0) (.acons (.rcons (.var 1) .rnil) (.acons (.rcons (.var 2) .rnil) .anil))))) 1), false), (.not (.cmp .lss (.lit 4096) (.rlen (.rvar 0) 1)), true), (.cmp .lss (.rlen (.rapp 120 (.acons (.rcons (.lit 0) .rnil) (.acons (.rvar 0) (.acons (.rcons (.var 1) .rnil) (.acons (.rcons (.var 2) .rnil) .anil))))) 1) (.lit 1000000), true)], .ret (.tuple [.int .i64 0, .int .i64 0]) ⟨0, .nil⟩)] := by kernel_rfl

end Go.Proofs.Ytkfejcffacbngaa.J


namespace Go.Proofs.Ytkfejcffacbngaa.J

open Go Go.Sym

set_option linter.unusedVariables false

/-- how many bytes, without the predictor's own -/
def tlenM (k : Int) (l : List Int) (w : Int) : Int := ((lenS (runsL (restsM k l w).1) : Nat) : Int)
/-- the predictor with the fewest bytes -/
def tbestM (l : List Int) (w h : Int) : Int × Int :=
  if ¬ rightT w h then (0, 3) else if (l.length : Int) ≠ w * h then (0, 6) else if (restsM 0 l w).2 ≠ 0 then (0, (restsM 0 l w).2) else
  (if tlenM 1 l w < tlenM 0 l w then (if tlenM 2 l w < tlenM 1 l w then 2 else 1) else (if tlenM 2 l w < tlenM 0 l w then 2 else 0), 0)

def g134 : List (List Int) → List Int
  | _ => [1]
def g135 : List (List Int) → List Int
  | [l, [w], [h]] => [(tbestM l w h).1]
  | _ => []
def g136 : List (List Int) → List Int
  | [l, [w], [h]] => [(tbestM l w h).2]
  | _ => []

noncomputable def FNtc : Nat → List (List Int) → List Int
  | 134, l => g134 l
  | 135, l => g135 l
  | 136, l => g136 l
  | i, l => FNtb i l

theorem FNtc_103 (zs : List Int) : FNtc 103 [zs] = [((lenS (runsL zs) : Nat) : Int)] := rfl
theorem FNtc_118 (k : Int) (l : List Int) (w : Int) : FNtc 118 [[k], l, [w]] = (restsM k l w).1 := rfl
theorem FNtc_119 (k : Int) (l : List Int) (w : Int) : FNtc 119 [[k], l, [w]] = [(restsM k l w).2] := rfl
theorem FNtc_120 (k : Int) (l : List Int) (w h : Int) : FNtc 120 [[k], l, [w], [h]] = (tputM k l w h).1 := rfl
theorem FNtc_121 (k : Int) (l : List Int) (w h : Int) : FNtc 121 [[k], l, [w], [h]] = [(tputM k l w h).2] := rfl
theorem FNtc_134 : FNtc 134 [] = [1] := rfl
theorem FNtc_135 (l : List Int) (w h : Int) : FNtc 135 [l, [w], [h]] = [(tbestM l w h).1] := rfl
theorem FNtc_136 (l : List Int) (w h : Int) : FNtc 136 [l, [w], [h]] = [(tbestM l w h).2] := rfl

theorem tb_tc {c : Pc} (h : PcOk Try.prog FNtb c) (h1 : ∀ i, i < c.rks.length → c.id + i < 134 ∨ 136 < c.id + i) (h2 : ∀ i, i ∈ c.pre → i < 134 ∨ 136 < i) : PcOk Try.prog FNtc c := by
  have e : ∀ j, j < 134 ∨ 136 < j → FNtc j = FNtb j := fun j hj => by
    funext l
    unfold FNtc
    split <;> first | omega | rfl
  exact h.cong (fun i hi => e _ (h1 i hi)) (fun i hi => e _ (h2 i hi))
theorem w_tc {c : Pc} (h : PcOk Try.prog FNw c) (h1 : ∀ i, i < c.rks.length → c.id + i < 115) (h2 : ∀ i, i ∈ c.pre → i < 115) : PcOk Try.prog FNtc c :=
  tb_tc (w_tb h h1 h2) (fun i hi => by have := h1 i hi; omega) (fun i hi => by have := h2 i hi; omega)

theorem tput_tc : PcOk Try.prog FNtc pcTP := tb_tc (ta_tb tput_ok (by decide) (by decide)) (by decide) (by decide)
theorem tputD_tc : PcOk Try.prog FNtc pcTD := tb_tc (ta_tb tputD_ok (by decide) (by decide)) (by decide) (by decide)
theorem restsP_tc : PcOk Try.prog FNtc pcRestsP := tb_tc (ta_tb restsP_ta (by decide) (by decide)) (by decide) (by decide)
theorem rlen_tc : PcOk Try.prog FNtc pcRLen := w_tc (u_w (r_u rlen_r (by decide) rfl) (by decide) rfl) (by decide) (by decide)

def pcTA : Pc := ⟨26, [], [.bool], 134, [], []⟩

theorem taw_val : tputM 1 (List.replicate 256 5) 16 16 = ([1, 10, 0, 254, 1], 0) := by kernel_rfl

def invTA (ls : List (List Int)) (c : Nat) (env : Env) : Prop := c = 0 ∨ (c = 1 ∧ ∃ n : Nat, vInt (env.val 3) = n ∧ vInt (env.val 5) = n ∧ env.row 4 = List.replicate n 5 ∧ n ≤ 256)

theorem knTA_ok : ∀ env : Env, env.fn = FNtc → KnOk Try.prog env [pcTP.ct] := fun env h => knOk_cons knOk_nil (Pc.ct_ok h tput_tc)

theorem taw_ok : PcOk Try.prog FNtc pcTA := by
  refine pc_floyd_as (cs := cutA) (base := 0) (aa := []) mix pcTA knTA_ok (Nat.le_refl 0) taw_rounds taw_entry invTA (fun ls c env => (0, if c = 0 then 1000 else (500 - vInt (env.val 3)).toNat)) (fun ls i env h => by rcases h with h | ⟨h, _⟩ <;> simp [h]) ?_
  intro ls e0 hf hargs hrng hpre
  simp only [pcTA, ArgsE] at hargs
  subst hargs
  refine ⟨AsOk_nil.2 trivial, fun env hfn => ⟨⟨fun _ => AsOk_nil.2 trivial, ?_, trivial⟩, ⟨?_, ?_, trivial⟩⟩, ?_⟩
  · rintro (h | ⟨_, n, q3, q5, q4, hn⟩)
    · cases h
    · simp only [nonneg, atmB, ltR, AsOk_cons, AsOk_nil, BE.eval, cmpI, IE.eval, q3, q5]
      simp; omega
  · rintro (h | ⟨h, _⟩)
    · refine ⟨fun _ => stepG_cut (.inr ⟨rfl, 1, ?_, ?_, ?_, by omega⟩) (Prod.lex_def.2 (.inr ⟨rfl, ?_⟩)), trivial⟩
      · simp [upd, lk_cons, lk_nil, IE.eval, vInt_int]
      · simp [upd, lk_cons, lk_nil, IE.eval, vInt_int]
      · simp [upd, lk_cons, lk_nil, IE.reval, IE.eval]
      · simp [upd, lk_cons, lk_nil, IE.eval, vInt_int]
    · cases h
  · rintro (h | ⟨_, n, q3, q5, q4, hn⟩)
    · cases h
    · have e1 : binI .add .i64 (n : Int) 1 = ((n + 1 : Nat) : Int) := by simp only [binI]; rw [wrap_i64 (by omega)]; omega
      simp only [allLeaves, AsOk_cons, AsOk_nil, BE.eval, cmpI, IE.eval, IE.reval, IE.aeval, hfn, q3, q4, q5, FNtc_120, FNtc_121, List.headD_cons, Nat.div_one, and_true, decide_eq_true_eq, decide_eq_false_iff_not]
      refine ⟨fun hA => ?_, ?_⟩
      · refine stepG_cut (.inr ⟨rfl, n + 1, ?_, ?_, ?_, by omega⟩) (Prod.lex_def.2 (.inr ⟨rfl, ?_⟩))
        · simp [upd, lk_cons, lk_nil, IE.eval, q3, e1, vInt_int]
        · simp [upd, lk_cons, lk_nil, IE.eval, q5, vInt_int]
        · simp [upd, lk_cons, lk_nil, IE.reval, IE.eval, q4, List.replicate_succ']
        · simp only [upd, lk_cons, lk_nil, Nat.reduceEqDiff, if_false, if_true, IE.eval, q3, e1, vInt_int]; simp; omega
      · by_cases hn6 : n = 256
        · subst hn6
          rw [taw_val]
          refine ⟨fun _ => ⟨[_], rfl, ⟨?_, rfl⟩⟩, fun h => absurd rfl h.1, fun h => absurd h.2.1 (by decide), fun h => absurd rfl h.1⟩
          simp only [BE.eval, IE.eval, IE.reval, IE.aeval, hfn, q4, pcTA, FNtc_120, FNtc_134, taw_val, List.headD_cons]
          decide
        · refine ⟨fun h => ?_, fun h => ?_, fun h => ?_, fun h => ?_⟩ <;> (exfalso; omega)
  · exact ⟨fun _ => stepG_cut0 (.inl rfl), trivial⟩

end Go.Proofs.Ytkfejcffacbngaa.J


namespace Go.Proofs.Ytkfejcffacbngaa.J

open Go Go.Sym

set_option linter.unusedVariables false

def pcTB : Pc := ⟨33, akTB, [.int .i64, .int .i64], 135, [(0, 0, 4096)], []⟩
def pcTBD : Pc := ⟨34, akTB, [.int .i64, .int .i64], 135, [(0, 0, 4096)], []⟩

theorem restsM_code {k : Int} {l : List Int} {w : Int} (h : 0 ≤ k ∧ k ≤ 2) : (restsM k l w).2 = (restsM 0 l w).2 := by
  have e : rightG k w l.length ↔ rightG 0 w l.length := by simp only [rightG]; omega
  unfold restsM
  by_cases h1 : rightG k w l.length
  · have h2 := e.1 h1
    simp only [if_neg (not_not_intro h1), if_neg (not_not_intro h2)]
    split <;> rfl
  · have h2 := fun x => h1 (e.2 x)
    simp only [if_pos h1, if_pos h2]

theorem pc_rows {c : Pc} {ls : List (List Int)} {w : World} {vs : List Value} (h : ArgsAre w vs akTB ls) : ∃ l a b, ls = [l, [a], [b]] := by
  obtain ⟨h1, h2, h3⟩ := argsAre_get h
  have hv : vs.length = 3 := by first | exact h1 | exact h2
  have hl : ls.length = 3 := by first | (rw [h2]; exact h1) | (rw [← h2]; exact h1) | exact h2
  match ls, hl with
  | [l, x, y], _ =>
    obtain ⟨a, _, hx⟩ := h3 1 _ _ _ (List.getElem?_eq_getElem (by omega)) rfl rfl
    obtain ⟨b, _, hy⟩ := h3 2 _ _ _ (List.getElem?_eq_getElem (by omega)) rfl rfl
    exact ⟨l, a, b, by rw [hx, hy]⟩

theorem tb_inst {c : Pc} (hc : c.aks = akTB) {kn : Kn} (hkn : ∀ env : Env, env.fn = FNtc → KnOk Try.prog env kn) {w : World} {vs : Array Value} {l : List Int} {W H : Int} (hargs : ArgsAre w vs.toList c.aks [l, [W], [H]]) {aa : As} {outs : List Leaf} (hent : entryK Try.prog kn 50 900 c.f [] 3 (argSVs 0 c.aks) 16 aa = some outs)
    (hall : ∀ e0 : Env, e0.fn = FNtc → e0.row 0 = l → vInt (e0.val 1) = W → vInt (e0.val 2) = H → AsOk e0 aa ∧ allLeaves (fun lf => AsOk e0 lf.1 → StepG FNtc [l, [W], [H]] c.id c.rks (fun _ _ => False) (fun _ _ => (0, 0)) none e0 lf.2) outs) :
    Calls Try.prog c.f vs w fun e w' => RowKit.Below w.heap.size w w' ∧ ∃ v vs', e = .returned v ∧ TupIs v vs' ∧ ResL FNtc [l, [W], [H]] w w' c.id c.rks vs' := by
  refine pc_inst' mix c hkn (by rw [hc]; decide) hent hargs fun e0 hf ha => ?_
  rw [hc] at ha
  simp only [ArgsE, ArgE, List.cons.injEq] at ha
  obtain ⟨_, _, ⟨rfl, rfl⟩, ⟨h0, _⟩, _, _, ⟨rfl, rfl⟩, h1, _, _, ⟨rfl, rfl⟩, h2, _⟩ := ha
  simp only [List.cons.injEq, and_true] at h1 h2
  exact hall e0 hf h0 h1.symm h2.symm

theorem knTB_ok : ∀ env : Env, env.fn = FNtc → KnOk Try.prog env [pcRestsP.ct, pcRLen.ct] := fun env h => knOk_cons (knOk_cons knOk_nil (Pc.ct_ok h rlen_tc)) (Pc.ct_ok h restsP_tc)
theorem knTBD_ok : ∀ env : Env, env.fn = FNtc → KnOk Try.prog env [pcTD.ct] := fun env h => knOk_cons knOk_nil (Pc.ct_ok h tputD_tc)

theorem tb_ret {l : List Int} {W H : Int} {e0 : Env} {rid : Nat} {M : Mem} (k code : Int) (h : tbestM l W H = (k, code)) : StepG FNtc [l, [W], [H]] 135 [.int .i64, .int .i64] (fun _ _ => False) (fun _ _ => (0, 0)) none e0 (.ret (.tuple [.int .i64 k, .int .i64 code]) M) := by
  refine ⟨[_, _], rfl, ⟨_, rfl, ?_⟩, ⟨_, rfl, ?_⟩, rfl⟩
  · simp only [IE.eval, FNtc_135, h, List.headD_cons]
  · simp only [IE.eval, Nat.reduceAdd, FNtc_136, h, List.headD_cons]
theorem tb_retS {l : List Int} {W H : Int} {e0 : Env} {M : Mem} (k : Int) (ie : IE) (h : tbestM l W H = (k, ie.eval e0)) : StepG FNtc [l, [W], [H]] 135 [.int .i64, .int .i64] (fun _ _ => False) (fun _ _ => (0, 0)) none e0 (.ret (.tuple [.int .i64 k, .sint .i64 ie]) M) := by
  refine ⟨[_, _], rfl, ⟨_, rfl, ?_⟩, ⟨_, rfl, ?_⟩, rfl⟩
  · simp only [IE.eval, FNtc_135, h, List.headD_cons]
  · simp only [Nat.reduceAdd, FNtc_136, h, List.headD_cons]

theorem tb3 {l : List Int} {W H : Int} (h : ¬ rightT W H) : tbestM l W H = (0, 3) := by rw [tbestM, if_pos h]
theorem tb6 {l : List Int} {W H : Int} (h : rightT W H) (h2 : (l.length : Int) ≠ W * H) : tbestM l W H = (0, 6) := by rw [tbestM, if_neg (fun x => x h), if_pos h2]
theorem tbC {l : List Int} {W H : Int} (h : rightT W H) (h2 : (l.length : Int) = W * H) (h3 : (restsM 0 l W).2 ≠ 0) : tbestM l W H = (0, (restsM 0 l W).2) := by rw [tbestM, if_neg (fun x => x h), if_neg (fun x => x h2), if_pos h3]
theorem tbO {l : List Int} {W H : Int} (h : rightT W H) (h2 : (l.length : Int) = W * H) (h3 : (restsM 0 l W).2 = 0) : tbestM l W H = (if tlenM 1 l W < tlenM 0 l W then (if tlenM 2 l W < tlenM 1 l W then 2 else 1) else (if tlenM 2 l W < tlenM 0 l W then 2 else 0), 0) := by rw [tbestM, if_neg (fun x => x h), if_neg (fun x => x h2), if_neg (fun x => x h3)]

set_option maxHeartbeats 2000000 in
theorem tbest_ok : PcOk Try.prog FNtc pcTB := by
  intro w vs ls hargs hrng hpre
  obtain ⟨l, W, H, rfl⟩ := pc_rows (c := pcTB) hargs
  have hlen := (hrng.1 (.sl [.i64]) l rfl rfl).2
  simp only [measL, List.length_singleton, Nat.div_one] at hlen
  have inst := fun {aa : As} {outs : List Leaf} (hent : entryK Try.prog [pcRestsP.ct, pcRLen.ct] 50 900 33 [] 3 (argSVs 0 akTB) 16 aa = some outs) (hall : ∀ e0 : Env, e0.fn = FNtc → e0.row 0 = l → vInt (e0.val 1) = W → vInt (e0.val 2) = H → AsOk e0 aa ∧ allLeaves (fun lf => AsOk e0 lf.1 → StepG FNtc [l, [W], [H]] 135 [.int .i64, .int .i64] (fun _ _ => False) (fun _ _ => (0, 0)) none e0 lf.2) outs) => tb_inst (c := pcTB) rfl knTB_ok hargs hent hall
  by_cases hr : rightT W H
  case neg =>
    by_cases c0 : W < 1
    · refine inst tbest_s0 fun e0 hf q0 q1 q2 => ⟨?_, ?_⟩
      · simp only [ltR, lenB, atmB, AsOk_cons, AsOk_nil, BE.eval, cmpI, IE.eval, IE.reval, q0, q1, Nat.div_one]; simp; omega
      · exact ⟨fun _ => tb_ret (rid := 0) 0 3 (tb3 hr), trivial⟩
    by_cases c1 : 16 < W
    · refine inst tbest_s1 fun e0 hf q0 q1 q2 => ⟨?_, ?_⟩
      · simp only [ltR, lenB, atmB, AsOk_cons, AsOk_nil, BE.eval, cmpI, IE.eval, IE.reval, q0, q1, Nat.div_one]; simp; omega
      · simp only [allLeaves, and_true]
        repeat' refine And.intro ?_ ?_
        all_goals exact fun _ => tb_ret (rid := 0) 0 3 (tb3 hr)
    by_cases c2 : H < 1
    · refine inst tbest_s2 fun e0 hf q0 q1 q2 => ⟨?_, ?_⟩
      · simp only [ltR, lenB, atmB, AsOk_cons, AsOk_nil, BE.eval, cmpI, IE.eval, IE.reval, q0, q2, Nat.div_one]; simp; omega
      · simp only [allLeaves, and_true]
        repeat' refine And.intro ?_ ?_
        all_goals exact fun _ => tb_ret (rid := 0) 0 3 (tb3 hr)
    · refine inst tbest_s3 fun e0 hf q0 q1 q2 => ⟨?_, ?_⟩
      · simp only [ltR, lenB, atmB, AsOk_cons, AsOk_nil, BE.eval, cmpI, IE.eval, IE.reval, q0, q2, Nat.div_one]; simp; omega
      · simp only [allLeaves, and_true]
        repeat' refine And.intro ?_ ?_
        all_goals exact fun _ => tb_ret (rid := 0) 0 3 (tb3 hr)
  have hP := mul_small hr
  by_cases hc : (l.length : Int) = W * H
  case neg =>
    refine inst tbest_3 fun e0 hf q0 q1 q2 => ⟨?_, ?_⟩
    · simp only [lenB, atmB, AsOk_cons, AsOk_nil, BE.eval, cmpI, IE.eval, IE.reval, q0, q1, q2, hP.1, Nat.div_one]; simp; omega
    · simp only [allLeaves, AsOk_cons, AsOk_nil, BE.eval, cmpI, IE.eval, IE.reval, q0, q1, q2, hP.1, Nat.div_one, and_true, decide_eq_true_eq, decide_eq_false_iff_not]
      repeat' refine And.intro ?_ ?_
      all_goals intro hA
      all_goals first
        | exact tb_ret (rid := 0) 0 6 (tb6 hr hc)
        | (exfalso; omega)
  by_cases h7 : (restsM 0 l W).2 = 0
  case neg =>
    have h0 : (restsM 0 l W).1 = [] := by
      unfold restsM at h7 ⊢
      split
      · rfl
      · rename_i x; rw [if_neg x] at h7
        split
        · rfl
        · rename_i y; rw [if_neg y] at h7; exact absurd rfl h7
    refine inst tbest_1 fun e0 hf q0 q1 q2 => ⟨?_, ?_⟩
    · simp only [rsB, rcB, ltR, lenB, atmB, AsOk_cons, AsOk_nil, BE.eval, cmpI, IE.eval, IE.reval, IE.aeval, hf, q0, q1, FNtc_118, FNtc_119, List.headD_cons, h0, Nat.div_one]; simp; omega
    · have ev : IE.eval e0 (rcB 0) = (restsM 0 l W).2 := by simp only [IE.eval, IE.reval, IE.aeval, hf, q0, q1, FNtc_119, List.headD_cons]
      simp only [allLeaves, AsOk_cons, AsOk_nil, BE.eval, cmpI, IE.eval, IE.reval, q0, q1, q2, hP.1, Nat.div_one, and_true, decide_eq_true_eq, decide_eq_false_iff_not]
      repeat' refine And.intro ?_ ?_
      all_goals intro hA
      all_goals first
        | exact tb_retS 0 (rcB 0) (by rw [ev]; exact tbC hr hc h7)
        | (exfalso; omega)
  have hk : ∀ k, 0 ≤ k ∧ k ≤ 2 → (restsM k l W).2 = 0 ∧ (restsM k l W).1.length = l.length := fun k hk => by
    have := restsM_code (l := l) (w := W) hk
    exact ⟨by rw [this, h7], restsM_len (by rw [this, h7])⟩
  obtain ⟨k0, k0'⟩ := hk 0 (by decide)
  obtain ⟨k1, k1'⟩ := hk 1 (by decide)
  obtain ⟨k2, k2'⟩ := hk 2 (by decide)
  have hO := tbO hr hc h7
  refine inst tbest_2 fun e0 hf q0 q1 q2 => ⟨?_, ?_⟩
  · simp only [rowB, rsB, rcB, ltR, lenB, atmB, List.cons_append, List.nil_append, AsOk_cons, AsOk_nil, BE.eval, cmpI, IE.eval, IE.reval, IE.aeval, hf, q0, q1, FNtc_118, FNtc_119, List.headD_cons, k0, k1, k2, k0', k1', k2', Nat.div_one]; simp; omega
  · simp only [allLeaves, AsOk_cons, AsOk_nil, BE.eval, cmpI, IE.eval, IE.reval, IE.aeval, hf, q0, q1, q2, hP.1, FNtc_118, FNtc_119, FNtc_103, List.headD_cons, Nat.div_one, and_true, decide_eq_true_eq, decide_eq_false_iff_not]
    simp only [tlenM] at hO
    repeat' refine And.intro ?_ ?_
    all_goals intro hA
    all_goals first
      | (exfalso; omega)
      | (refine tb_ret (rid := 0) _ 0 ?_
         rw [hO]
         obtain ⟨a1, a2, _⟩ := hA
         simp only [a1, a2, if_true, if_false])

end Go.Proofs.Ytkfejcffacbngaa.J


namespace Go.Proofs.Ytkfejcffacbngaa.J

open Go Go.Sym

set_option linter.unusedVariables false

theorem tput_O {k : Int} {l : List Int} {W H : Int} (h : (tputM k l W H).2 = 0) : rightT W H ∧ (0 ≤ k ∧ k ≤ 2) ∧ (l.length : Int) = W * H ∧ (restsM k l W).2 = 0 ∧ tputM k l W H = (k :: putS (runsL (restsM k l W).1), 0) := by
  unfold tputM at h ⊢
  by_cases h1 : rightT W H
  case neg => rw [if_pos h1] at h; exact absurd h (by decide)
  rw [if_neg (not_not_intro h1)] at h ⊢
  by_cases h2 : 0 ≤ k ∧ k ≤ 2
  case neg => rw [if_pos h2] at h; exact absurd h (by decide)
  rw [if_neg (not_not_intro h2)] at h ⊢
  by_cases h3 : (l.length : Int) = W * H
  case neg => rw [if_pos h3] at h; exact absurd h (by decide)
  rw [if_neg (not_not_intro h3)] at h ⊢
  by_cases h4 : (restsM k l W).2 = 0
  case neg => rw [if_pos h4] at h; exact absurd h h4
  rw [if_neg (not_not_intro h4)]
  exact ⟨h1, h2, h3, h4, rfl⟩

theorem tput_of {k : Int} {l : List Int} {W H : Int} (h1 : rightT W H) (h2 : 0 ≤ k ∧ k ≤ 2) (h3 : (l.length : Int) = W * H) (h4 : (restsM k l W).2 = 0) : tputM k l W H = (k :: putS (runsL (restsM k l W).1), 0) := by
  rw [tputM, if_neg (not_not_intro h1), if_neg (not_not_intro h2), if_neg (not_not_intro h3), if_neg (not_not_intro h4)]

theorem tput_E {k : Int} {l : List Int} {W H : Int} (h : (tputM k l W H).2 ≠ 0) : (tputM k l W H).1 = [] := by
  unfold tputM at h ⊢
  by_cases h1 : rightT W H
  case neg => rw [if_pos h1]
  rw [if_neg (not_not_intro h1)] at h ⊢
  by_cases h2 : 0 ≤ k ∧ k ≤ 2
  case neg => rw [if_pos h2]
  rw [if_neg (not_not_intro h2)] at h ⊢
  by_cases h3 : (l.length : Int) = W * H
  case neg => rw [if_pos h3]
  rw [if_neg (not_not_intro h3)] at h ⊢
  by_cases h4 : (restsM k l W).2 = 0
  case neg => rw [if_pos h4]
  rw [if_neg (not_not_intro h4)] at h
  exact absurd rfl h

theorem tbest_E {l : List Int} {W H : Int} (h : (tputM 0 l W H).2 ≠ 0) : tbestM l W H = (0, (tputM 0 l W H).2) := by
  have d : (0 : Int) ≤ 0 ∧ (0 : Int) ≤ 2 := by decide
  by_cases h1 : rightT W H
  case neg => simp only [tputM, tbestM, if_pos h1]
  by_cases h3 : (l.length : Int) = W * H
  case neg => simp only [tputM, tbestM, if_neg (not_not_intro h1), if_neg (not_not_intro d), ne_eq, if_pos h3]
  by_cases h4 : (restsM 0 l W).2 = 0
  case neg => simp only [tputM, tbestM, if_neg (not_not_intro h1), if_neg (not_not_intro d), ne_eq, if_neg (not_not_intro h3), if_pos h4]
  exact absurd (by rw [tput_of h1 d h3 h4]) h

theorem tput_k {k : Int} {l : List Int} {W H : Int} (h : (tputM 0 l W H).2 = 0) (hk : 0 ≤ k ∧ k ≤ 2) : tputM k l W H = (k :: putS (runsL (restsM k l W).1), 0) ∧ ((tputM k l W H).1.length : Int) = 1 + tlenM k l W ∧ (tputM k l W H).1.length ≤ 1 + 22 * l.length := by
  obtain ⟨h1, h2, h3, h4, _⟩ := tput_O h
  have e := tput_of h1 hk h3 (by rw [restsM_code hk, h4])
  have h5 := putS_runs_le (restsM k l W).1
  have h6 := restsM_le k l W
  refine ⟨e, ?_, ?_⟩
  · rw [e, tlenM, ← putS_len]; simp; omega
  · rw [e]; simp; omega

set_option maxHeartbeats 2000000 in
theorem tbestD_ok : PcOk Try.prog FNtc pcTBD := by
  intro w vs ls hargs hrng hpre
  obtain ⟨l, W, H, rfl⟩ := pc_rows (c := pcTBD) hargs
  have hlen := (hrng.1 (.sl [.i64]) l rfl rfl).2
  simp only [measL, List.length_singleton, Nat.div_one] at hlen
  have inst := fun {aa : As} {outs : List Leaf} (hent : entryK Try.prog [pcTD.ct] 50 900 34 [] 3 (argSVs 0 akTB) 16 aa = some outs) (hall : ∀ e0 : Env, e0.fn = FNtc → e0.row 0 = l → vInt (e0.val 1) = W → vInt (e0.val 2) = H → AsOk e0 aa ∧ allLeaves (fun lf => AsOk e0 lf.1 → StepG FNtc [l, [W], [H]] 135 [.int .i64, .int .i64] (fun _ _ => False) (fun _ _ => (0, 0)) none e0 lf.2) outs) => tb_inst (c := pcTBD) rfl knTBD_ok hargs hent hall
  by_cases h0 : (tputM 0 l W H).2 = 0
  case neg =>
    refine inst tbestD_1 fun e0 hf q0 q1 q2 => ⟨?_, ?_⟩
    · simp only [tsB, tcB, ltR, lenB, atmB, AsOk_cons, AsOk_nil, BE.eval, cmpI, IE.eval, IE.reval, IE.aeval, hf, q0, q1, q2, FNtc_120, FNtc_121, List.headD_cons, tput_E h0, Nat.div_one]; simp; omega
    · exact ⟨fun _ => tb_retS 0 (tcB 0) (by rw [tbest_E h0]; simp only [IE.eval, IE.reval, IE.aeval, hf, q0, q1, q2, FNtc_121, List.headD_cons]), trivial⟩
  obtain ⟨r1, _, r3, r4, _⟩ := tput_O h0
  have hO := tbO r1 r3 r4
  obtain ⟨a0, b0, c0⟩ := tput_k h0 (k := 0) (by decide)
  obtain ⟨a1, b1, c1⟩ := tput_k h0 (k := 1) (by decide)
  obtain ⟨a2, b2, c2⟩ := tput_k h0 (k := 2) (by decide)
  have a0' : (tputM 0 l W H).2 = 0 := by rw [a0]
  have a1' : (tputM 1 l W H).2 = 0 := by rw [a1]
  have a2' : (tputM 2 l W H).2 = 0 := by rw [a2]
  have l0 : 0 ≤ tlenM 0 l W := by simp [tlenM]
  have l1 : 0 ≤ tlenM 1 l W := by simp [tlenM]
  have l2 : 0 ≤ tlenM 2 l W := by simp [tlenM]
  refine inst tbestD_2 fun e0 hf q0 q1 q2 => ⟨?_, ?_⟩
  · simp only [rowD, tsB, tcB, ltR, lenB, atmB, List.cons_append, List.nil_append, AsOk_cons, AsOk_nil, BE.eval, cmpI, IE.eval, IE.reval, IE.aeval, hf, q0, q1, q2, FNtc_120, FNtc_121, List.headD_cons, a0', a1', a2', Nat.div_one]; simp; omega
  · simp only [allLeaves, AsOk_cons, AsOk_nil, BE.eval, cmpI, IE.eval, IE.reval, IE.aeval, hf, q0, q1, q2, FNtc_120, FNtc_121, List.headD_cons, Nat.div_one, and_true, decide_eq_true_eq, decide_eq_false_iff_not, b0, b1, b2]
    repeat' refine And.intro ?_ ?_
    all_goals intro hA
    all_goals first
      | (exfalso; omega)
      | (refine tb_ret (rid := 0) _ 0 ?_
         rw [hO]
         congr 1
         obtain ⟨x1, x2, _⟩ := hA
         split <;> split <;> omega)

end Go.Proofs.Ytkfejcffacbngaa.J


namespace Go.Proofs.Ytkfejcffacbngaa.J

open Go Go.Sym

set_option linter.unusedVariables false

abbrev awT : BE × Bool := (.cmp .eql (.app 134 .anil) (.lit 0), false)
end Go.Proofs.Ytkfejcffacbngaa.J


namespace Go.Proofs.Ytkfejcffacbngaa.J

open Go Go.Sym

set_option linter.unusedVariables false

abbrev gQ : IE := .acons (.rvar 0) (.acons (.rcons (.var 1) .rnil) (.acons (.rcons (.var 2) .rnil) .anil))
abbrev knTBest : Kn := [pcTA.ct, pcTB.ct, pcTBD.ct, pcTP.ct]
abbrev kB : IE := .app 135 gQ
abbrev eB : IE := .app 136 gQ
abbrev pB (k : IE) : IE := .acons (.rcons k .rnil) (.acons (.rvar 0) (.acons (.rcons (.var 1) .rnil) (.acons (.rcons (.var 2) .rnil) .anil)))
abbrev fineB (k : IE) : As := [(.cmp .eql (.app 121 (pB k)) (.lit 0), true), ltR (.lit 0) (.rlen (.rapp 120 (pB k)) 1) true]
abbrev lessB (k : IE) : BE × Bool := ltR (.rlen (.rapp 120 (pB k)) 1) (.rlen (.rapp 120 (pB kB)) 1) false

theorem tbests_0 : entryK Try.prog knTBest 1 900 8 [] 3 (argSVs 0 akTB) 4 [awT, ltR (.lit 600) l0 true] = some [([(.cmp .eql (.app 134 .anil) (.lit 0), false), (.cmp .lss (.lit 600) (.rlen (.rvar 0) 1), true)], .ret (.bool true) ⟨0, .nil⟩)] := by kernel_rfl

theorem tbests_1 : entryK Try.prog knTBest 1 900 8 [] 3 (argSVs 0 akTB) 8 [awT, ltR (.lit 600) l0 false, (.cmp .eql eB (.lit 0), false)] = some [([(.cmp .eql (.app 134 .anil) (.lit 0), false), (.cmp .lss (.lit 600) (.rlen (.rvar 0) 1), false), (.cmp .eql (.app 136 (.acons (.rvar 0) (.acons (.rcons (.var 1) .rnil) (.acons (.rcons (.var 2) .rnil) .anil)))) (.lit 0), false)], .ret (.bool true) ⟨0, .nil⟩)] := by kernel_rfl

theorem tbests_2 : entryK Try.prog knTBest 1 900 8 [] 3 (argSVs 0 akTB) 12 ([awT, ltR (.lit 600) l0 false, (.cmp .eql eB (.lit 0), true)] ++ fineB kB ++ fineB (.lit 0) ++ fineB (.lit 1) ++ fineB (.lit 2) ++ [lessB (.lit 0), lessB (.lit 1), lessB (.lit 2)]) = some [([(.cmp .lss (.lit 0) (.app 135 (.acons (.rvar 0) (.acons (.rcons (.var 1) .rnil) (.acons (.rcons (.var 2) .rnil) .anil)))), true), (.cmp .eql (.rlen (.rapp 120 (.acons (.rcons (.lit 0) .rnil) (.acons (.rvar 0) (.acons (.rcons (.var 1) .rnil) (.acons (.rcons (.var 2) .rnil) .anil))))) 1) (.rlen (.rapp 120 (.acons (.rcons (.app 135 (.acons (.rvar 0) (.acons (.rcons (.var 1) .rnil) (.acons (.rcons (.var 2) .rnil) .anil)))) .rnil) (.acons (.rvar 0) (.acons (.rcons (.var 1) .rnil) (.acons (.rcons (.var 2) .rnil) .anil))))) 1), true), (.cmp .eql (.app 134 .anil) (.lit 0), false), (.cmp .lss (.lit 600) (.rlen (.rvar 0) 1), false), (.cmp .eql (.app 136 (.acons (.rvar 0) (.acons (.rcons (.var 1) .rnil) (.acons (.rcons (.var 2) .rnil) .anil)))) (.lit 0), true), (.cmp .eql (.app 121 (.acons (.rcons (.app 135 (.acons (.rvar 0) (.acons (.rcons (.var 1) .rnil) (.acons (.rcons (.var 2) .rnil) .anil)))) .rnil) (.acons (.rvar 0) (.acons (.rcons (.var 1) .rnil) (.acons (.rcons (.var 2) .rnil) .anil))))) (.lit 0), true), (.cmp .lss (.lit 0) (.rlen (.rapp 120 (.acons (.rcons (.app 135 (.acons (.rvar 0) (.acons (.rcons (.var 1) .rnil) (.acons (.rcons (.var 2) .rnil) .anil)))) .rnil) (.acons (.rvar 0) (.acons (.rcons (.var 1) .rnil) (.acons (.rcons (.var 2) .rnil) .anil))))) 1), true), (.cmp .eql (.app 121 (.acons (.rcons (.lit 0) .rnil) (.acons (.rvar 0) (.acons (.rcons (.var 1) .rnil) (.acons (.rcons (.var 2) .rnil) .anil))))) (.lit 0), true), (.cmp .lss (.lit 0) (.rlen (.rapp 120 (.acons (.rcons (.lit 0) .rnil) (.acons (.rvar 0) (.acons (.rcons (.var 1) .rnil) (.acons (.rcons (.var 2) .rnil) .anil))))) 1), true), (.cmp .eql (.app 121 (.acons (.rcons (.lit 1) .rnil) (.acons (.rvar 0) (.acons (.rcons (.var 1) .rnil) (.acons (.rcons (.var 2) .rnil) .anil))))) (.lit 0), true), (.cmp .lss (.lit 0) (.rlen (.rapp 120 (.acons (.rcons (.lit 1) .rnil) (.acons (.rvar 0) (.acons (.rcons (.var 1) .rnil) (.acons (.rcons (.var 2) .rnil) .anil))))) 1), true), (.cmp .eql (.app 121 (.acons (.rcons (.lit 2) .rnil) (.acons (.rvar 0) (.acons (.rcons (.var 1) .rnil) (.acons (.rcons (.var 2) .rnil) .anil))))) (.lit 0), true), (.cmp .lss (.lit 0) (.rlen (.rapp 120 (.acons (.rcons (.lit 2) .rnil) (.acons (.rvar 0) (.acons (.rcons (.var 1) .rnil) (.acons (.rcons (.var 2) .rnil) .anil))))) 1), true), (.cmp .lss (.rlen (.rapp 120 (.acons (.rcons (.lit 0) .rnil) (.acons (.rvar 0) (.acons (.rcons (.var 1) .rnil) (.acons (.rcons (.var 2) .rnil) .anil))))) 1) (.rlen (.rapp 120 (.acons (.rcons (.app 135 (.acons (.rvar 0) (.acons (.rcons (.var 1) .rnil) (.acons (.rcons (.var 2) .rnil) .anil)))) .rnil) (.acons (.rvar 0) (.acons (.rcons (.var 1) .rnil) (.acons (.rcons (.var 2) .rnil) .anil))))) 1), false), (.cmp .lss (.rlen (.rapp 120 (.acons (.rcons (.lit 1) .rnil) (.acons (.rvar 0) (.acons (.rcons (.var 1) .rnil) (.acons (.rcons (.var 2) .rnil) .anil))))) 1) (.rlen (.rapp 120 (.acons (.rcons (.app 135 (.acons (.rvar 0) (.acons (.rcons (.var 1) .rnil) (.acons (.rcons (.var 2) .rnil) .anil)))) .rnil) (.acons (.rvar 0) (.acons (.rcons (.var 1) .rnil) (.acons (.rcons (.var 2) .rnil) .anil))))) 1), false), (.cmp .lss (.rlen (.rapp 120 (.acons (.rcons (.lit 2) .rnil) (.acons (.rvar 0) (.acons (.rcons (.var 1) .rnil) (.acons (.rcons (.var 2) .rnil) .anil))))) 1) (.rlen (.rapp 120 (.acons (.rcons (.app 135 (.acons (.rvar 0) (.acons (.rcons (.var 1) .rnil) (.acons (.rcons (.var 2) .rnil) .anil)))) .rnil) (.acons (.rvar 0) (.acons (.rcons (.var 1) .rnil) (.acons (.rcons (.var 2) .rnil) .anil))))) 1), false)], .ret (.bool false) ⟨0, .nil⟩), ([(.cmp .eql (.rlen (.rapp 120 (.acons (.rcons (.lit 2) .rnil) (.acons (.rvar 0) (.acons (.rcons (.var 1) .rnil) (.acons (.rcons (.var 2) .rnil) .anil))))) 1) (.rlen (.rapp 120 (.acons (.rcons (.app 135 (.acons (.rvar 0) (.acons (.rcons (.var 1) .rnil) (.acons (.rcons (.var 2) .rnil) .anil)))) .rnil) (.acons (.rvar 0) (.acons (.rcons (.var 1) .rnil) (.acons (.rcons (.var 2) .rnil) .anil))))) 1), true), (.cmp .eql (.rlen (.rapp 120 (.acons (.rcons (.lit 1) .rnil) (.acons (.rvar 0) (.acons (.rcons (.var 1) .rnil) (.acons (.rcons (.var 2) .rnil) .anil))))) 1) (.rlen (.rapp 120 (.acons (.rcons (.app 135 (.acons (.rvar 0) (.acons (.rcons (.var 1) .rnil) (.acons (.rcons (.var 2) .rnil) .anil)))) .rnil) (.acons (.rvar 0) (.acons (.rcons (.var 1) .rnil) (.acons (.rcons (.var 2) .rnil) .anil))))) 1), true), (.cmp .lss (.lit 0) (.app 135 (.acons (.rvar 0) (.acons (.rcons (.var 1) .rnil) (.acons (.rcons (.var 2) .rnil) .anil)))), false), (.cmp .eql (.rlen (.rapp 120 (.acons (.rcons (.lit 0) .rnil) (.acons (.rvar 0) (.acons (.rcons (.var 1) .rnil) (.acons (.rcons (.var 2) .rnil) .anil))))) 1) (.rlen (.rapp 120 (.acons (.rcons (.app 135 (.acons (.rvar 0) (.acons (.rcons (.var 1) .rnil) (.acons (.rcons (.var 2) .rnil) .anil)))) .rnil) (.acons (.rvar 0) (.acons (.rcons (.var 1) .rnil) (.acons (.rcons (.var 2) .rnil) .anil))))) 1), true), (.cmp .eql (.app 134 .anil) (.lit 0), false), (.cmp .lss (.lit 600) (.rlen (.rvar 0) 1), false), (.cmp .eql (.app 136 (.acons (.rvar 0) (.acons (.rcons (.var 1) .rnil) (.acons (.rcons (.var 2) .rnil) .anil)))) (.lit 0), true), (.cmp .eql (.app 121 (.acons (.rcons (.app 135 (.acons (.rvar 0) (.acons (.rcons (.var 1) .rnil) (.acons (.rcons (.var 2) .rnil) .anil)))) .rnil) (.acons (.rvar 0) (.acons (.rcons (.var 1) .rnil) (.acons (.rcons (.var 2) .rnil) .anil))))) (.lit 0), true), (.cmp .lss (.lit 0) (.rlen (.rapp 120 (.acons (.rcons (.app 135 (.acons (.rvar 0) (.acons (.rcons (.var 1) .rnil) (.acons (.rcons (.var 2) .rnil) .anil)))) .rnil) (.acons (.rvar 0) (.acons (.rcons (.var 1) .rnil) (.acons (.rcons (.var 2) .rnil) .anil))))) 1), true), (.cmp .eql (.app 121 (.acons (.rcons (.lit 0) .rnil) (.acons (.rvar 0) (.acons (.rcons (.var 1) .rnil) (.acons (.rcons (.var 2) .rnil) .anil))))) (.lit 0), true), (.cmp .lss (.lit 0) (.rlen (.rapp 120 (.acons (.rcons (.lit 0) .rnil) (.acons (.rvar 0) (.acons (.rcons (.var 1) .rnil) (.acons (.rcons (.var 2) .rnil) .anil))))) 1), true), (.cmp .eql (.app 121 (.acons (.rcons (.lit 1) .rnil) (.acons (.rvar 0) (.acons (.rcons (.var 1) .rnil) (.acons (.rcons (.var 2) .rnil) .anil))))) (.lit 0), true), (.cmp .lss (.lit 0) (.rlen (.rapp 120 (.acons (.rcons (.lit 1) .rnil) (.acons (.rvar 0) (.acons (.rcons (.var 1) .rnil) (.acons (.rcons (.var 2) .rnil) .anil))))) 1), true), (.cmp .eql (.app 121 (.acons (.rcons (.lit 2) .rnil) (.acons (.rvar 0) (.acons (.rcons (.var 1) .rnil) (.acons (.rcons (.var 2) .rnil) .anil))))) (.lit 0), true), (.cmp .lss (.lit 0) (.rlen (.rapp 120 (.acons (.rcons (.lit 2) .rnil) (.acons (.rvar 0) (.acons (.rcons (.var 1) .rnil) (.acons (.rcons (.var 2) .rnil) .anil))))) 1), true), (.cmp .lss (.rlen (.rapp 120 (.acons (.rcons (.lit 0) .rnil) (.acons (.rvar 0) (.acons (.rcons (.var 1) .rnil) (.acons (.rcons (.var 2) .rnil) .anil))))) 1) (.rlen (.rapp 120 (.acons (.rcons (.app 135 (.acons (.rvar 0) (.acons (.rcons (.var 1) .rnil) (.acons (.rcons (.var 2) .rnil) .anil)))) .rnil) (.acons (.rvar 0) (.acons (.rcons (.var 1) .rnil) (.acons (.rcons (.var 2) .rnil) .anil))))) 1), false), (.cmp .lss (.rlen (.rapp 120 (.acons (.rcons (.lit 1) .rnil) (.acons (.rvar 0) (.acons (.rcons (.var 1) .rnil) (.acons (.rcons (.var 2) .rnil) .anil))))) 1) (.rlen (.rapp 120 (.acons (.rcons (.app 135 (.acons (.rvar 0) (.acons (.rcons (.var 1) .rnil) (.acons (.rcons (.var 2) .rnil) .anil)))) .rnil) (.acons (.rvar 0) (.acons (.rcons (.var 1) .rnil) (.acons (.rcons (.var 2) .rnil) .anil))))) 1), false), (.cmp .lss (.rlen (.rapp 120 (.acons (.rcons (.lit 2) .rnil) (.acons (.rvar 0) (.acons (.rcons (.var 1) .rnil) (.acons (.rcons (.var 2) .rnil) .anil))))) 1) (.rlen (.rapp 120 (.acons (.rcons (.app 135 (.acons (.rvar 0) (.acons (.rcons (.var 1) .rnil) (.acons (.rcons (.var 2) .rnil) .anil)))) .rnil) (.acons (.rvar 0) (.acons (.rcons (.var 1) .rnil) (.acons (.rcons (.var 2) .rnil) .anil))))) 1), false)], .ret (.bool true) ⟨0, .nil⟩), ([(.cmp .eql (.rlen (.rapp 120 (.acons (.rcons (.lit 2) .rnil) (.acons (.rvar 0) (.acons (.rcons (.var 1) .rnil) (.acons (.rcons (.var 2) .rnil) .anil))))) 1) (.rlen (.rapp 120 (.acons (.rcons (.app 135 (.acons (.rvar 0) (.acons (.rcons (.var 1) .rnil) (.acons (.rcons (.var 2) .rnil) .anil)))) .rnil) (.acons (.rvar 0) (.acons (.rcons (.var 1) .rnil) (.acons (.rcons (.var 2) .rnil) .anil))))) 1), false), (.cmp .eql (.rlen (.rapp 120 (.acons (.rcons (.lit 1) .rnil) (.acons (.rvar 0) (.acons (.rcons (.var 1) .rnil) (.acons (.rcons (.var 2) .rnil) .anil))))) 1) (.rlen (.rapp 120 (.acons (.rcons (.app 135 (.acons (.rvar 0) (.acons (.rcons (.var 1) .rnil) (.acons (.rcons (.var 2) .rnil) .anil)))) .rnil) (.acons (.rvar 0) (.acons (.rcons (.var 1) .rnil) (.acons (.rcons (.var 2) .rnil) .anil))))) 1), true), (.cmp .lss (.lit 0) (.app 135 (.acons (.rvar 0) (.acons (.rcons (.var 1) .rnil) (.acons (.rcons (.var 2) .rnil) .anil)))), false), (.cmp .eql (.rlen (.rapp 120 (.acons (.rcons (.lit 0) .rnil) (.acons (.rvar 0) (.acons (.rcons (.var 1) .rnil) (.acons (.rcons (.var 2) .rnil) .anil))))) 1) (.rlen (.rapp 120 (.acons (.rcons (.app 135 (.acons (.rvar 0) (.acons (.rcons (.var 1) .rnil) (.acons (.rcons (.var 2) .rnil) .anil)))) .rnil) (.acons (.rvar 0) (.acons (.rcons (.var 1) .rnil) (.acons (.rcons (.var 2) .rnil) .anil))))) 1), true), (.cmp .eql (.app 134 .anil) (.lit 0), false), (.cmp .lss (.lit 600) (.rlen (.rvar 0) 1), false), (.cmp .eql (.app 136 (.acons (.rvar 0) (.acons (.rcons (.var 1) .rnil) (.acons (.rcons (.var 2) .rnil) .anil)))) (.lit 0), true), (.cmp .eql (.app 121 (.acons (.rcons (.app 135 (.acons (.rvar 0) (.acons (.rcons (.var 1) .rnil) (.acons (.rcons (.var 2) .rnil) .anil)))) .rnil) (.acons (.rvar 0) (.acons (.rcons (.var 1) .rnil) (.acons (.rcons (.var 2) .rnil) .anil))))) (.lit 0), true), (.cmp .lss (.lit 0) (.rlen (.rapp 120 (.acons (.rcons (.app 135 (.acons (.rvar 0) (.acons (.rcons (.var 1) .rnil) (.acons (.rcons (.var 2) .rnil) .anil)))) .rnil) (.acons (.rvar 0) (.acons (.rcons (.var 1) .rnil) (.acons (.rcons (.var 2) .rnil) .anil))))) 1), true), (.cmp .eql (.app 121 (.acons (.rcons (.lit 0) .rnil) (.acons (.rvar 0) (.acons (.rcons (.var 1) .rnil) (.acons (.rcons (.var 2) .rnil) .anil))))) (.lit 0), true), (.cmp .lss (.lit 0) (.rlen (.rapp 120 (.acons (.rcons (.lit 0) .rnil) (.acons (.rvar 0) (.acons (.rcons (.var 1) .rnil) (.acons (.rcons (.var 2) .rnil) .anil))))) 1), true), (.cmp .eql (.app 121 (.acons (.rcons (.lit 1) .rnil) (.acons (.rvar 0) (.acons (.rcons (.var 1) .rnil) (.acons (.rcons (.var 2) .rnil) .anil))))) (.lit 0), true), (.cmp .lss (.lit 0) (.rlen (.rapp 120 (.acons (.rcons (.lit 1) .rnil) (.acons (.rvar 0) (.acons (.rcons (.var 1) .rnil) (.acons (.rcons (.var 2) .rnil) .anil))))) 1), true), (.cmp .eql (.app 121 (.acons (.rcons (.lit 2) .rnil) (.acons (.rvar 0) (.acons (.rcons (.var 1) .rnil) (.acons (.rcons (.var 2) .rnil) .anil))))) (.lit 0), true), (.cmp .lss (.lit 0) (.rlen (.rapp 120 (.acons (.rcons (.lit 2) .rnil) (.acons (.rvar 0) (.acons (.rcons (.var 1) .rnil) (.acons (.rcons (.var 2) .rnil) .anil))))) 1), true), (.cmp .lss (.rlen (.rapp 120 (.acons (.rcons (.lit 0) .rnil) (.acons (.rvar 0) (.acons (.rcons (.var 1) .rnil) (.acons (.rcons (.var 2) .rnil) .anil))))) 1) (.rlen (.rapp 120 (.acons (.rcons (.app 135 (.acons (.rvar 0) (.acons (.rcons (.var 1) .rnil) (.acons (.rcons (.var 2) .rnil) .anil)))) .rnil) (.acons (.rvar 0) (.acons (.rcons (.var 1) .rnil) (.acons (.rcons (.var 2) .rnil) .anil))))) 1), false), (.cmp .lss (.rlen (.rapp 120 (.acons (.rcons (.lit 1) .rnil) (.acons (.rvar 0) (.acons (.rcons (.var 1) .rnil) (.acons (.rcons (.var 2) .rnil) .anil))))) 1) (.rlen (.rapp 120 (.acons (.rcons (.app 135 (.acons (.rvar 0) (.acons (.rcons (.var 1) .rnil) (.acons (.rcons (.var 2) .rnil) .anil)))) .rnil) (.acons (.rvar 0) (.acons (.rcons (.var 1) .rnil) (.acons (.rcons (.var 2) .rnil) .anil))))) 1), false), (.cmp .lss (.rlen (.rapp 120 (.acons (.rcons (.lit 2) .rnil) (.acons (.rvar 0) (.acons (.rcons (.var 1) .rnil) (.acons (.rcons (.var 2) .rnil) .anil))))) 1) (.rlen (.rapp 120 (.acons (.rcons (.app 135 (.acons (.rvar 0) (.acons (.rcons (.var 1) .rnil) (.acons (.rcons (.var 2) .rnil) .anil)))) .rnil) (.acons (.rvar 0) (.acons (.rcons (.var 1) .rnil) (.acons (.rcons (.var 2) .rnil) .anil))))) 1), false)], .ret (.bool true) ⟨0, .nil⟩), ([(.cmp .eql (.rlen (.rapp 120 (.acons (.rcons (.lit 2) .rnil) (.acons (.rvar 0) (.acons (.rcons (.var 1) .rnil) (.acons (.rcons (.var 2) .rnil) .anil))))) 1) (.rlen (.rapp 120 (.acons (.rcons (.app 135 (.acons (.rvar 0) (.acons (.rcons (.var 1) .rnil) (.acons (.rcons (.var 2) .rnil) .anil)))) .rnil) (.acons (.rvar 0) (.acons (.rcons (.var 1) .rnil) (.acons (.rcons (.var 2) .rnil) .anil))))) 1), true), (.cmp .eql (.rlen (.rapp 120 (.acons (.rcons (.lit 1) .rnil) (.acons (.rvar 0) (.acons (.rcons (.var 1) .rnil) (.acons (.rcons (.var 2) .rnil) .anil))))) 1) (.rlen (.rapp 120 (.acons (.rcons (.app 135 (.acons (.rvar 0) (.acons (.rcons (.var 1) .rnil) (.acons (.rcons (.var 2) .rnil) .anil)))) .rnil) (.acons (.rvar 0) (.acons (.rcons (.var 1) .rnil) (.acons (.rcons (.var 2) .rnil) .anil))))) 1), false), (.cmp .lss (.lit 0) (.app 135 (.acons (.rvar 0) (.acons (.rcons (.var 1) .rnil) (.acons (.rcons (.var 2) .rnil) .anil)))), false), (.cmp .eql (.rlen (.rapp 120 (.acons (.rcons (.lit 0) .rnil) (.acons (.rvar 0) (.acons (.rcons (.var 1) .rnil) (.acons (.rcons (.var 2) .rnil) .anil))))) 1) (.rlen (.rapp 120 (.acons (.rcons (.app 135 (.acons (.rvar 0) (.acons (.rcons (.var 1) .rnil) (.acons (.rcons (.var 2) .rnil) .anil)))) .rnil) (.acons (.rvar 0) (.acons (.rcons (.var 1) .rnil) (.acons (.rcons (.var 2) .rnil) .anil))))) 1), true), (.cmp .eql (.app 134 .anil) (.lit 0), false), (.cmp .lss (.lit 600) (.rlen (.rvar 0) 1), false), (.cmp .eql (.app 136 (.acons (.rvar 0) (.acons (.rcons (.var 1) .rnil) (.acons (.rcons (.var 2) .rnil) .anil)))) (.lit 0), true), (.cmp .eql (.app 121 (.acons (.rcons (.app 135 (.acons (.rvar 0) (.acons (.rcons (.var 1) .rnil) (.acons (.rcons (.var 2) .rnil) .anil)))) .rnil) (.acons (.rvar 0) (.acons (.rcons (.var 1) .rnil) (.acons (.rcons (.var 2) .rnil) .anil))))) (.lit 0), true), (.cmp .lss (.lit 0) (.rlen (.rapp 120 (.acons (.rcons (.app 135 (.acons (.rvar 0) (.acons (.rcons (.var 1) .rnil) (.acons (.rcons (.var 2) .rnil) .anil)))) .rnil) (.acons (.rvar 0) (.acons (.rcons (.var 1) .rnil) (.acons (.rcons (.var 2) .rnil) .anil))))) 1), true), (.cmp .eql (.app 121 (.acons (.rcons (.lit 0) .rnil) (.acons (.rvar 0) (.acons (.rcons (.var 1) .rnil) (.acons (.rcons (.var 2) .rnil) .anil))))) (.lit 0), true), (.cmp .lss (.lit 0) (.rlen (.rapp 120 (.acons (.rcons (.lit 0) .rnil) (.acons (.rvar 0) (.acons (.rcons (.var 1) .rnil) (.acons (.rcons (.var 2) .rnil) .anil))))) 1), true), (.cmp .eql (.app 121 (.acons (.rcons (.lit 1) .rnil) (.acons (.rvar 0) (.acons (.rcons (.var 1) .rnil) (.acons (.rcons (.var 2) .rnil) .anil))))) (.lit 0), true), (.cmp .lss (.lit 0) (.rlen (.rapp 120 (.acons (.rcons (.lit 1) .rnil) (.acons (.rvar 0) (.acons (.rcons (.var 1) .rnil) (.acons (.rcons (.var 2) .rnil) .anil))))) 1), true), (.cmp .eql (.app 121 (.acons (.rcons (.lit 2) .rnil) (.acons (.rvar 0) (.acons (.rcons (.var 1) .rnil) (.acons (.rcons (.var 2) .rnil) .anil))))) (.lit 0), true), (.cmp .lss (.lit 0) (.rlen (.rapp 120 (.acons (.rcons (.lit 2) .rnil) (.acons (.rvar 0) (.acons (.rcons (.var 1) .rnil) (.acons (.rcons (.var 2) .rnil) .anil))))) 1), true), (.cmp .lss (.rlen (.rapp 120 (.acons (.rcons (.lit 0) .rnil) (.acons (.rvar 0) (.acons (.rcons (.var 1) .rnil) (.acons (.rcons (.var 2) .rnil) .anil))))) 1) (.rlen (.rapp 120 (.acons (.rcons (.app 135 (.acons (.rvar 0) (.acons (.rcons (.var 1) .rnil) (.acons (.rcons (.var 2) .rnil) .anil)))) .rnil) (.acons (.rvar 0) (.acons (.rcons (.var 1) .rnil) (.acons (.rcons (.var 2) .rnil) .anil))))) 1), false), (.cmp .lss (.rlen (.rapp 120 (.acons (.rcons (.lit 1) .rnil) (.acons (.rvar 0) (.acons (.rcons (.var 1) .rnil) (.acons (.rcons (.var 2) .rnil) .anil))))) 1) (.rlen (.rapp 120 (.acons (.rcons (.app 135 (.acons (.rvar 0) (.acons (.rcons (.var 1) .rnil) (.acons (.rcons (.var 2) .rnil) .anil)))) .rnil) (.acons (.rvar 0) (.acons (.rcons (.var 1) .rnil) (.acons (.rcons (.var 2) .rnil) .anil))))) 1), false), (.cmp .lss (.rlen (.rapp 120 (.acons (.rcons (.lit 2) .rnil) (.acons (.rvar 0) (.acons (.rcons (.var 1) .rnil) (.acons (.rcons (.var 2) .rnil) .anil))))) 1) (.rlen (.rapp 120 (.acons (.rcons (.app 135 (.acons (.rvar 0) (.acons (.rcons (.var 1) .rnil) (.acons (.rcons (.var 2) .rnil) .anil)))) .rnil) (.acons (.rvar 0) (.acons (.rcons (.var 1) .rnil) (.acons (.rcons (.var 2) .rnil) .anil))))) 1), false)], .ret (.bool true) ⟨0, .nil⟩), ([(.cmp .eql (.rlen (.rapp 120 (.acons (.rcons (.lit 2) .rnil) (.acons (.rvar 0) (.acons (.rcons (.var 1) .rnil) (.acons (.rcons (.var 2) .rnil) .anil))))) 1) (.rlen (.rapp 120 (.acons (.rcons (.app 135 (.acons (.rvar 0) (.acons (.rcons (.var 1) .rnil) (.acons (.rcons (.var 2) .rnil) .anil)))) .rnil) (.acons (.rvar 0) (.acons (.rcons (.var 1) .rnil) (.acons (.rcons (.var 2) .rnil) .anil))))) 1), false), (.cmp .eql (.rlen (.rapp 120 (.acons (.rcons (.lit 1) .rnil) (.acons (.rvar 0) (.acons (.rcons (.var 1) .rnil) (.acons (.rcons (.var 2) .rnil) .anil))))) 1) (.rlen (.rapp 120 (.acons (.rcons (.app 135 (.acons (.rvar 0) (.acons (.rcons (.var 1) .rnil) (.acons (.rcons (.var 2) .rnil) .anil)))) .rnil) (.acons (.rvar 0) (.acons (.rcons (.var 1) .rnil) (.acons (.rcons (.var 2) .rnil) .anil))))) 1), false), (.cmp .lss (.lit 0) (.app 135 (.acons (.rvar 0) (.acons (.rcons (.var 1) .rnil) (.acons (.rcons (.var 2) .rnil) .anil)))), false), (.cmp .eql (.rlen (.rapp 120 (.acons (.rcons (.lit 0) .rnil) (.acons (.rvar 0) (.acons (.rcons (.var 1) .rnil) (.acons (.rcons (.var 2) .rnil) .anil))))) 1) (.rlen (.rapp 120 (.acons (.rcons (.app 135 (.acons (.rvar 0) (.acons (.rcons (.var 1) .rnil) (.acons (.rcons (.var 2) .rnil) .anil)))) .rnil) (.acons (.rvar 0) (.acons (.rcons (.var 1) .rnil) (.acons (.rcons (.var 2) .rnil) .anil))))) 1), true), (.cmp .eql (.app 134 .anil) (.lit 0), false), (.cmp .lss (.lit 600) (.rlen (.rvar 0) 1), false), (.cmp .eql (.app 136 (.acons (.rvar 0) (.acons (.rcons (.var 1) .rnil) (.acons (.rcons (.var 2) .rnil) .anil)))) (.lit 0), true), (.cmp .eql (.app 121 (.acons (.rcons (.app 135 (.acons (.rvar 0) (.acons (.rcons (.var 1) .rnil) (.acons (.rcons (.var 2) .rnil) .anil)))) .rnil) (.acons (.rvar 0) (.acons (.rcons (.var 1) .rnil) (.acons (.rcons (.var 2) .rnil) .anil))))) (.lit 0), true), (.cmp .lss (.lit 0) (.rlen (.rapp 120 (.acons (.rcons (.app 135 (.acons (.rvar 0) (.acons (.rcons (.var 1) .rnil) (.acons (.rcons (.var 2) .rnil) .anil)))) .rnil) (.acons (.rvar 0) (.acons (.rcons (.var 1) .rnil) (.acons (.rcons (.var 2) .rnil) .anil))))) 1), true), (.cmp .eql (.app 121 (.acons (.rcons (.lit 0) .rnil) (.acons (.rvar 0) (.acons (.rcons (.var 1) .rnil) (.acons (.rcons (.var 2) .rnil) .anil))))) (.lit 0), true), (.cmp .lss (.lit 0) (.rlen (.rapp 120 (.acons (.rcons (.lit 0) .rnil) (.acons (.rvar 0) (.acons (.rcons (.var 1) .rnil) (.acons (.rcons (.var 2) .rnil) .anil))))) 1), true), (.cmp .eql (.app 121 (.acons (.rcons (.lit 1) .rnil) (.acons (.rvar 0) (.acons (.rcons (.var 1) .rnil) (.acons (.rcons (.var 2) .rnil) .anil))))) (.lit 0), true), (.cmp .lss (.lit 0) (.rlen (.rapp 120 (.acons (.rcons (.lit 1) .rnil) (.acons (.rvar 0) (.acons (.rcons (.var 1) .rnil) (.acons (.rcons (.var 2) .rnil) .anil))))) 1), true), (.cmp .eql (.app 121 (.acons (.rcons (.lit 2) .rnil) (.acons (.rvar 0) (.acons (.rcons (.var 1) .rnil) (.acons (.rcons (.var 2) .rnil) .anil))))) (.lit 0), true), (.cmp .lss (.lit 0) (.rlen (.rapp 120 (.acons (.rcons (.lit 2) .rnil) (.acons (.rvar 0) (.acons (.rcons (.var 1) .rnil) (.acons (.rcons (.var 2) .rnil) .anil))))) 1), true), (.cmp .lss (.rlen (.rapp 120 (.acons (.rcons (.lit 0) .rnil) (.acons (.rvar 0) (.acons (.rcons (.var 1) .rnil) (.acons (.rcons (.var 2) .rnil) .anil))))) 1) (.rlen (.rapp 120 (.acons (.rcons (.app 135 (.acons (.rvar 0) (.acons (.rcons (.var 1) .rnil) (.acons (.rcons (.var 2) .rnil) .anil)))) .rnil) (.acons (.rvar 0) (.acons (.rcons (.var 1) .rnil) (.acons (.rcons (.var 2) .rnil) .anil))))) 1), false), (.cmp .lss (.rlen (.rapp 120 (.acons (.rcons (.lit 1) .rnil) (.acons (.rvar 0) (.acons (.rcons (.var 1) .rnil) (.acons (.rcons (.var 2) .rnil) .anil))))) 1) (.rlen (.rapp 120 (.acons (.rcons (.app 135 (.acons (.rvar 0) (.acons (.rcons (.var 1) .rnil) (.acons (.rcons (.var 2) .rnil) .anil)))) .rnil) (.acons (.rvar 0) (.acons (.rcons (.var 1) .rnil) (.acons (.rcons (.var 2) .rnil) .anil))))) 1), false), (.cmp .lss (.rlen (.rapp 120 (.acons (.rcons (.lit 2) .rnil) (.acons (.rvar 0) (.acons (.rcons (.var 1) .rnil) (.acons (.rcons (.var 2) .rnil) .anil))))) 1) (.rlen (.rapp 120 (.acons (.rcons (.app 135 (.acons (.rvar 0) (.acons (.rcons (.var 1) .rnil) (.acons (.rcons (.var 2) .rnil) .anil)))) .rnil) (.acons (.rvar 0) (.acons (.rcons (.var 1) .rnil) (.acons (.rcons (.var 2) .rnil) .anil))))) 1), false)], .ret (.bool true) ⟨0, .nil⟩), ([(.cmp .lss (.lit 1) (.app 135 (.acons (.rvar 0) (.acons (.rcons (.var 1) .rnil) (.acons (.rcons (.var 2) .rnil) .anil)))), true), (.cmp .eql (.rlen (.rapp 120 (.acons (.rcons (.lit 1) .rnil) (.acons (.rvar 0) (.acons (.rcons (.var 1) .rnil) (.acons (.rcons (.var 2) .rnil) .anil))))) 1) (.rlen (.rapp 120 (.acons (.rcons (.app 135 (.acons (.rvar 0) (.acons (.rcons (.var 1) .rnil) (.acons (.rcons (.var 2) .rnil) .anil)))) .rnil) (.acons (.rvar 0) (.acons (.rcons (.var 1) .rnil) (.acons (.rcons (.var 2) .rnil) .anil))))) 1), true), (.cmp .eql (.rlen (.rapp 120 (.acons (.rcons (.lit 0) .rnil) (.acons (.rvar 0) (.acons (.rcons (.var 1) .rnil) (.acons (.rcons (.var 2) .rnil) .anil))))) 1) (.rlen (.rapp 120 (.acons (.rcons (.app 135 (.acons (.rvar 0) (.acons (.rcons (.var 1) .rnil) (.acons (.rcons (.var 2) .rnil) .anil)))) .rnil) (.acons (.rvar 0) (.acons (.rcons (.var 1) .rnil) (.acons (.rcons (.var 2) .rnil) .anil))))) 1), false), (.cmp .eql (.app 134 .anil) (.lit 0), false), (.cmp .lss (.lit 600) (.rlen (.rvar 0) 1), false), (.cmp .eql (.app 136 (.acons (.rvar 0) (.acons (.rcons (.var 1) .rnil) (.acons (.rcons (.var 2) .rnil) .anil)))) (.lit 0), true), (.cmp .eql (.app 121 (.acons (.rcons (.app 135 (.acons (.rvar 0) (.acons (.rcons (.var 1) .rnil) (.acons (.rcons (.var 2) .rnil) .anil)))) .rnil) (.acons (.rvar 0) (.acons (.rcons (.var 1) .rnil) (.acons (.rcons (.var 2) .rnil) .anil))))) (.lit 0), true), (.cmp .lss (.lit 0) (.rlen (.rapp 120 (.acons (.rcons (.app 135 (.acons (.rvar 0) (.acons (.rcons (.var 1) .rnil) (.acons (.rcons (.var 2) .rnil) .anil)))) .rnil) (.acons (.rvar 0) (.acons (.rcons (.var 1) .rnil) (.acons (.rcons (.var 2) .rnil) .anil))))) 1), true), (.cmp .eql (.app 121 (.acons (.rcons (.lit 0) .rnil) (.acons (.rvar 0) (.acons (.rcons (.var 1) .rnil) (.acons (.rcons (.var 2) .rnil) .anil))))) (.lit 0), true), (.cmp .lss (.lit 0) (.rlen (.rapp 120 (.acons (.rcons (.lit 0) .rnil) (.acons (.rvar 0) (.acons (.rcons (.var 1) .rnil) (.acons (.rcons (.var 2) .rnil) .anil))))) 1), true), (.cmp .eql (.app 121 (.acons (.rcons (.lit 1) .rnil) (.acons (.rvar 0) (.acons (.rcons (.var 1) .rnil) (.acons (.rcons (.var 2) .rnil) .anil))))) (.lit 0), true), (.cmp .lss (.lit 0) (.rlen (.rapp 120 (.acons (.rcons (.lit 1) .rnil) (.acons (.rvar 0) (.acons (.rcons (.var 1) .rnil) (.acons (.rcons (.var 2) .rnil) .anil))))) 1), true), (.cmp .eql (.app 121 (.acons (.rcons (.lit 2) .rnil) (.acons (.rvar 0) (.acons (.rcons (.var 1) .rnil) (.acons (.rcons (.var 2) .rnil) .anil))))) (.lit 0), true), (.cmp .lss (.lit 0) (.rlen (.rapp 120 (.acons (.rcons (.lit 2) .rnil) (.acons (.rvar 0) (.acons (.rcons (.var 1) .rnil) (.acons (.rcons (.var 2) .rnil) .anil))))) 1), true), (.cmp .lss (.rlen (.rapp 120 (.acons (.rcons (.lit 0) .rnil) (.acons (.rvar 0) (.acons (.rcons (.var 1) .rnil) (.acons (.rcons (.var 2) .rnil) .anil))))) 1) (.rlen (.rapp 120 (.acons (.rcons (.app 135 (.acons (.rvar 0) (.acons (.rcons (.var 1) .rnil) (.acons (.rcons (.var 2) .rnil) .anil)))) .rnil) (.acons (.rvar 0) (.acons (.rcons (.var 1) .rnil) (.acons (.rcons (.var 2) .rnil) .anil))))) 1), false), (.cmp .lss (.rlen (.rapp 120 (.acons (.rcons (.lit 1) .rnil) (.acons (.rvar 0) (.acons (.rcons (.var 1) .rnil) (.acons (.rcons (.var 2) .rnil) .anil))))) 1) (.rlen (.rapp 120 (.acons (.rcons (.app 135 (.acons (.rvar 0) (.acons (.rcons (.var 1) .rnil) (.acons (.rcons (.var 2) .rnil) .anil)))) .rnil) (.acons (.rvar 0) (.acons (.rcons (.var 1) .rnil) (.acons (.rcons (.var 2) .rnil) .anil))))) 1), false), (.cmp .lss (.rlen (.rapp 120 (.acons (.rcons (.lit 2) .rnil) (.acons (.rvar 0) (.acons (.rcons (.var 1) .rnil) (.acons (.rcons (.var 2) .rnil) .anil))))) 1) (.rlen (.rapp 120 (.acons (.rcons (.app 135 (.acons (.rvar 0) (.acons (.rcons (.var 1) .rnil) (.acons (.rcons (.var 2) .rnil) .anil)))) .rnil) (.acons (.rvar 0) (.acons (.rcons (.var 1) .rnil) (.acons (.rcons (.var 2) .rnil) .anil))))) 1), false)], .ret (.bool false) ⟨0, .nil⟩), ([(.cmp .eql (.rlen (.rapp 120 (.acons (.rcons (.lit 2) .rnil) (.acons (.rvar 0) (.acons (.rcons (.var 1) .rnil) (.acons (.rcons (.var 2) .rnil) .anil))))) 1) (.rlen (.rapp 120 (.acons (.rcons (.app 135 (.acons (.rvar 0) (.acons (.rcons (.var 1) .rnil) (.acons (.rcons (.var 2) .rnil) .anil)))) .rnil) (.acons (.rvar 0) (.acons (.rcons (.var 1) .rnil) (.acons (.rcons (.var 2) .rnil) .anil))))) 1), true), (.cmp .lss (.lit 1) (.app 135 (.acons (.rvar 0) (.acons (.rcons (.var 1) .rnil) (.acons (.rcons (.var 2) .rnil) .anil)))), false), (.cmp .eql (.rlen (.rapp 120 (.acons (.rcons (.lit 1) .rnil) (.acons (.rvar 0) (.acons (.rcons (.var 1) .rnil) (.acons (.rcons (.var 2) .rnil) .anil))))) 1) (.rlen (.rapp 120 (.acons (.rcons (.app 135 (.acons (.rvar 0) (.acons (.rcons (.var 1) .rnil) (.acons (.rcons (.var 2) .rnil) .anil)))) .rnil) (.acons (.rvar 0) (.acons (.rcons (.var 1) .rnil) (.acons (.rcons (.var 2) .rnil) .anil))))) 1), true), (.cmp .eql (.rlen (.rapp 120 (.acons (.rcons (.lit 0) .rnil) (.acons (.rvar 0) (.acons (.rcons (.var 1) .rnil) (.acons (.rcons (.var 2) .rnil) .anil))))) 1) (.rlen (.rapp 120 (.acons (.rcons (.app 135 (.acons (.rvar 0) (.acons (.rcons (.var 1) .rnil) (.acons (.rcons (.var 2) .rnil) .anil)))) .rnil) (.acons (.rvar 0) (.acons (.rcons (.var 1) .rnil) (.acons (.rcons (.var 2) .rnil) .anil))))) 1), false), (.cmp .eql (.app 134 .anil) (.lit 0), false), (.cmp .lss (.lit 600) (.rlen (.rvar 0) 1), false), (.cmp .eql (.app 136 (.acons (.rvar 0) (.acons (.rcons (.var 1) .rnil) (.acons (.rcons (.var 2) .rnil) .anil)))) (.lit 0), true), (.cmp .eql (.app 121 (.acons (.rcons (.app 135 (.acons (.rvar 0) (.acons (.rcons (.var 1) .rnil) (.acons (.rcons (.var 2) .rnil) .anil)))) .rnil) (.acons (.rvar 0) (.acons (.rcons (.var 1) .rnil) (.acons (.rcons (.var 2) .rnil) .anil))))) (.lit 0), true), (.cmp .lss (.lit 0) (.rlen (.rapp 120 (.acons (.rcons (.app 135 (.acons (.rvar 0) (.acons (.rcons (.var 1) .rnil) (.acons (.rcons (.var 2) .rnil) .anil)))) .rnil) (.acons (.rvar 0) (.acons (.rcons (.var 1) .rnil) (.acons (.rcons (.var 2) .rnil) .anil))))) 1), true), (.cmp .eql (.app 121 (.acons (.rcons (.lit 0) .rnil) (.acons (.rvar 0) (.acons (.rcons (.var 1) .rnil) (.acons (.rcons (.var 2) .rnil) .anil))))) (.lit 0), true), (.cmp .lss (.lit 0) (.rlen (.rapp 120 (.acons (.rcons (.lit 0) .rnil) (.acons (.rvar 0) (.acons (.rcons (.var 1) .rnil) (.acons (.rcons (.var 2) .rnil) .anil))))) 1), true), (.cmp .eql (.app 121 (.acons (.rcons (.lit 1) .rnil) (.acons (.rvar 0) (.acons (.rcons (.var 1) .rnil) (.acons (.rcons (.var 2) .rnil) .anil))))) (.lit 0), true), (.cmp .lss (.lit 0) (.rlen (.rapp 120 (.acons (.rcons (.lit 1) .rnil) (.acons (.rvar 0) (.acons (.rcons (.var 1) .rnil) (.acons (.rcons (.var 2) .rnil) .anil))))) 1), true), (.cmp .eql (.app 121 (.acons (.rcons (.lit 2) .rnil) (.acons (.rvar 0) (.acons (.rcons (.var 1) .rnil) (.acons (.rcons (.var 2) .rnil) .anil))))) (.lit 0), true), (.cmp .lss (.lit 0) (.rlen (.rapp 120 (.acons (.rcons (.lit 2) .rnil) (.acons (.rvar 0) (.acons (.rcons (.var 1) .rnil) (.acons (.rcons (.var 2) .rnil) .anil))))) 1), true), (.cmp .lss (.rlen (.rapp 120 (.acons (.rcons (.lit 0) .rnil) (.acons (.rvar 0) (.acons (.rcons (.var 1) .rnil) (.acons (.rcons (.var 2) .rnil) .anil))))) 1) (.rlen (.rapp 120 (.acons (.rcons (.app 135 (.acons (.rvar 0) (.acons (.rcons (.var 1) .rnil) (.acons (.rcons (.var 2) .rnil) .anil)))) .rnil) (.acons (.rvar 0) (.acons (.rcons (.var 1) .rnil) (.acons (.rcons (.var 2) .rnil) .anil))))) 1), false), (.cmp .lss (.rlen (.rapp 120 (.acons (.rcons (.lit 1) .rnil) (.acons (.rvar 0) (.acons (.rcons (.var 1) .rnil) (.acons (.rcons (.var 2) .rnil) .anil))))) 1) (.rlen (.rapp 120 (.acons (.rcons (.app 135 (.acons (.rvar 0) (.acons (.rcons (.var 1) .rnil) (.acons (.rcons (.var 2) .rnil) .anil)))) .rnil) (.acons (.rvar 0) (.acons (.rcons (.var 1) .rnil) (.acons (.rcons (.var 2) .rnil) .anil))))) 1), false), (.cmp .lss (.rlen (.rapp 120 (.acons (.rcons (.lit 2) .rnil) (.acons (.rvar 0) (.acons (.rcons (.var 1) .rnil) (.acons (.rcons (.var 2) .rnil) .anil))))) 1) (.rlen (.rapp 120 (.acons (.rcons (.app 135 (.acons (.rvar 0) (.acons (.rcons (.var 1) .rnil) (.acons (.rcons (.var 2) .rnil) .anil)))) .rnil) (.acons (.rvar 0) (.acons (.rcons (.var 1) .rnil) (.acons (.rcons (.var 2) .rnil) .anil))))) 1), false)], .ret (.bool true) ⟨0, .nil⟩), ([(.cmp .eql (.rlen (.rapp 120 (.acons (.rcons (.lit 2) .rnil) (.acons (.rvar 0) (.acons (.rcons (.var 1) .rnil) (.acons (.rcons (.var 2) .rnil) .anil))))) 1) (.rlen (.rapp 120 (.acons (.rcons (.app 135 (.acons (.rvar 0) (.acons (.rcons (.var 1) .rnil) (.acons (.rcons (.var 2) .rnil) .anil)))) .rnil) (.acons (.rvar 0) (.acons (.rcons (.var 1) .rnil) (.acons (.rcons (.var 2) .rnil) .anil))))) 1), false), (.cmp .lss (.lit 1) (.app 135 (.acons (.rvar 0) (.acons (.rcons (.var 1) .rnil) (.acons (.rcons (.var 2) .rnil) .anil)))), false), (.cmp .eql (.rlen (.rapp 120 (.acons (.rcons (.lit 1) .rnil) (.acons (.rvar 0) (.acons (.rcons (.var 1) .rnil) (.acons (.rcons (.var 2) .rnil) .anil))))) 1) (.rlen (.rapp 120 (.acons (.rcons (.app 135 (.acons (.rvar 0) (.acons (.rcons (.var 1) .rnil) (.acons (.rcons (.var 2) .rnil) .anil)))) .rnil) (.acons (.rvar 0) (.acons (.rcons (.var 1) .rnil) (.acons (.rcons (.var 2) .rnil) .anil))))) 1), true), (.cmp .eql (.rlen (.rapp 120 (.acons (.rcons (.lit 0) .rnil) (.acons (.rvar 0) (.acons (.rcons (.var 1) .rnil) (.acons (.rcons (.var 2) .rnil) .anil))))) 1) (.rlen (.rapp 120 (.acons (.rcons (.app 135 (.acons (.rvar 0) (.acons (.rcons (.var 1) .rnil) (.acons (.rcons (.var 2) .rnil) .anil)))) .rnil) (.acons (.rvar 0) (.acons (.rcons (.var 1) .rnil) (.acons (.rcons (.var 2) .rnil) .anil))))) 1), false), (.cmp .eql (.app 134 .anil) (.lit 0), false), (.cmp .lss (.lit 600) (.rlen (.rvar 0) 1), false), (.cmp .eql (.app 136 (.acons (.rvar 0) (.acons (.rcons (.var 1) .rnil) (.acons (.rcons (.var 2) .rnil) .anil)))) (.lit 0), true), (.cmp .eql (.app 121 (.acons (.rcons (.app 135 (.acons (.rvar 0) (.acons (.rcons (.var 1) .rnil) (.acons (.rcons (.var 2) .rnil) .anil)))) .rnil) (.acons (.rvar 0) (.acons (.rcons (.var 1) .rnil) (.acons (.rcons (.var 2) .rnil) .anil))))) (.lit 0), true), (.cmp .lss (.lit 0) (.rlen (.rapp 120 (.acons (.rcons (.app 135 (.acons (.rvar 0) (.acons (.rcons (.var 1) .rnil) (.acons (.rcons (.var 2) .rnil) .anil)))) .rnil) (.acons (.rvar 0) (.acons (.rcons (.var 1) .rnil) (.acons (.rcons (.var 2) .rnil) .anil))))) 1), true), (.cmp .eql (.app 121 (.acons (.rcons (.lit 0) .rnil) (.acons (.rvar 0) (.acons (.rcons (.var 1) .rnil) (.acons (.rcons (.var 2) .rnil) .anil))))) (.lit 0), true), (.cmp .lss (.lit 0) (.rlen (.rapp 120 (.acons (.rcons (.lit 0) .rnil) (.acons (.rvar 0) (.acons (.rcons (.var 1) .rnil) (.acons (.rcons (.var 2) .rnil) .anil))))) 1), true), (.cmp .eql (.app 121 (.acons (.rcons (.lit 1) .rnil) (.acons (.rvar 0) (.acons (.rcons (.var 1) .rnil) (.acons (.rcons (.var 2) .rnil) .anil))))) (.lit 0), true), (.cmp .lss (.lit 0) (.rlen (.rapp 120 (.acons (.rcons (.lit 1) .rnil) (.acons (.rvar 0) (.acons (.rcons (.var 1) .rnil) (.acons (.rcons (.var 2) .rnil) .anil))))) 1), true), (.cmp .eql (.app 121 (.acons (.rcons (.lit 2) .rnil) (.acons (.rvar 0) (.acons (.rcons (.var 1) .rnil) (.acons (.rcons (.var 2) .rnil) .anil))))) (.lit 0), true), (.cmp .lss (.lit 0) (.rlen (.rapp 120 (.acons (.rcons (.lit 2) .rnil) (.acons (.rvar 0) (.acons (.rcons (.var 1) .rnil) (.acons (.rcons (.var 2) .rnil) .anil))))) 1), true), (.cmp .lss (.rlen (.rapp 120 (.acons (.rcons (.lit 0) .rnil) (.acons (.rvar 0) (.acons (.rcons (.var 1) .rnil) (.acons (.rcons (.var 2) .rnil) .anil))))) 1) (.rlen (.rapp 120 (.acons (.rcons (.app 135 (.acons (.rvar 0) (.acons (.rcons (.var 1) .rnil) (.acons (.rcons (.var 2) .rnil) .anil)))) .rnil) (.acons (.rvar 0) (.acons (.rcons (.var 1) .rnil) (.acons (.rcons (.var 2) .rnil) .anil))))) 1), false), (.cmp .lss (.rlen (.rapp 120 (.acons (.rcons (.lit 1) .rnil) (.acons (.rvar 0) (.acons (.rcons (.var 1) .rnil) (.acons (.rcons (.var 2) .rnil) .anil))))) 1) (.rlen (.rapp 120 (.acons (.rcons (.app 135 (.acons (.rvar 0) (.acons (.rcons (.var 1) .rnil) (.acons (.rcons (.var 2) .rnil) .anil)))) .rnil) (.acons (.rvar 0) (.acons (.rcons (.var 1) .rnil) (.acons (.rcons (.var 2) .rnil) .anil))))) 1), false), (.cmp .lss (.rlen (.rapp 120 (.acons (.rcons (.lit 2) .rnil) (.acons (.rvar 0) (.acons (.rcons (.var 1) .rnil) (.acons (.rcons (.var 2) .rnil) .anil))))) 1) (.rlen (.rapp 120 (.acons (.rcons (.app 135 (.acons (.rvar 0) (.acons (.rcons (.var 1) .rnil) (.acons (.rcons (.var 2) .rnil) .anil)))) .rnil) (.acons (.rvar 0) (.acons (.rcons (.var 1) .rnil) (.acons (.rcons (.var 2) .rnil) .anil))))) 1), false)], .ret (.bool true) ⟨0, .nil⟩), ([(.cmp .lss (.lit 2) (.app 135 (.acons (.rvar 0) (.acons (.rcons (.var 1) .rnil) (.acons (.rcons (.var 2) .rnil) .anil)))), true), (.cmp .eql (.rlen (.rapp 120 (.acons (.rcons (.lit 2) .rnil) (.acons (.rvar 0) (.acons (.rcons (.var 1) .rnil) (.acons (.rcons (.var 2) .rnil) .anil))))) 1) (.rlen (.rapp 120 (.acons (.rcons (.app 135 (.acons (.rvar 0) (.acons (.rcons (.var 1) .rnil) (.acons (.rcons (.var 2) .rnil) .anil)))) .rnil) (.acons (.rvar 0) (.acons (.rcons (.var 1) .rnil) (.acons (.rcons (.var 2) .rnil) .anil))))) 1), true), (.cmp .eql (.rlen (.rapp 120 (.acons (.rcons (.lit 1) .rnil) (.acons (.rvar 0) (.acons (.rcons (.var 1) .rnil) (.acons (.rcons (.var 2) .rnil) .anil))))) 1) (.rlen (.rapp 120 (.acons (.rcons (.app 135 (.acons (.rvar 0) (.acons (.rcons (.var 1) .rnil) (.acons (.rcons (.var 2) .rnil) .anil)))) .rnil) (.acons (.rvar 0) (.acons (.rcons (.var 1) .rnil) (.acons (.rcons (.var 2) .rnil) .anil))))) 1), false), (.cmp .eql (.rlen (.rapp 120 (.acons (.rcons (.lit 0) .rnil) (.acons (.rvar 0) (.acons (.rcons (.var 1) .rnil) (.acons (.rcons (.var 2) .rnil) .anil))))) 1) (.rlen (.rapp 120 (.acons (.rcons (.app 135 (.acons (.rvar 0) (.acons (.rcons (.var 1) .rnil) (.acons (.rcons (.var 2) .rnil) .anil)))) .rnil) (.acons (.rvar 0) (.acons (.rcons (.var 1) .rnil) (.acons (.rcons (.var 2) .rnil) .anil))))) 1), false), (.cmp .eql (.app 134 .anil) (.lit 0), false), (.cmp .lss (.lit 600) (.rlen (.rvar 0) 1), false), (.cmp .eql (.app 136 (.acons (.rvar 0) (.acons (.rcons (.var 1) .rnil) (.acons (.rcons (.var 2) .rnil) .anil)))) (.lit 0), true), (.cmp .eql (.app 121 (.acons (.rcons (.app 135 (.acons (.rvar 0) (.acons (.rcons (.var 1) .rnil) (.acons (.rcons (.var 2) .rnil) .anil)))) .rnil) (.acons (.rvar 0) (.acons (.rcons (.var 1) .rnil) (.acons (.rcons (.var 2) .rnil) .anil))))) (.lit 0), true), (.cmp .lss (.lit 0) (.rlen (.rapp 120 (.acons (.rcons (.app 135 (.acons (.rvar 0) (.acons (.rcons (.var 1) .rnil) (.acons (.rcons (.var 2) .rnil) .anil)))) .rnil) (.acons (.rvar 0) (.acons (.rcons (.var 1) .rnil) (.acons (.rcons (.var 2) .rnil) .anil))))) 1), true), (.cmp .eql (.app 121 (.acons (.rcons (.lit 0) .rnil) (.acons (.rvar 0) (.acons (.rcons (.var 1) .rnil) (.acons (.rcons (.var 2) .rnil) .anil))))) (.lit 0), true), (.cmp .lss (.lit 0) (.rlen (.rapp 120 (.acons (.rcons (.lit 0) .rnil) (.acons (.rvar 0) (.acons (.rcons (.var 1) .rnil) (.acons (.rcons (.var 2) .rnil) .anil))))) 1), true), (.cmp .eql (.app 121 (.acons (.rcons (.lit 1) .rnil) (.acons (.rvar 0) (.acons (.rcons (.var 1) .rnil) (.acons (.rcons (.var 2) .rnil) .anil))))) (.lit 0), true), (.cmp .lss (.lit 0) (.rlen (.rapp 120 (.acons (.rcons (.lit 1) .rnil) (.acons (.rvar 0) (.acons (.rcons (.var 1) .rnil) (.acons (.rcons (.var 2) .rnil) .anil))))) 1), true), (.cmp .eql (.app 121 (.acons (.rcons (.lit 2) .rnil) (.acons (.rvar 0) (.acons (.rcons (.var 1) .rnil) (.acons (.rcons (.var 2) .rnil) .anil))))) (.lit 0), true), (.cmp .lss (.lit 0) (.rlen (.rapp 120 (.acons (.rcons (.lit 2) .rnil) (.acons (.rvar 0) (.acons (.rcons (.var 1) .rnil) (.acons (.rcons (.var 2) .rnil) .anil))))) 1), true), (.cmp .lss (.rlen (.rapp 120 (.acons (.rcons (.lit 0) .rnil) (.acons (.rvar 0) (.acons (.rcons (.var 1) .rnil) (.acons (.rcons (.var 2) .rnil) .anil))))) 1) (.rlen (.rapp 120 (.acons (.rcons (.app 135 (.acons (.rvar 0) (.acons (.rcons (.var 1) .rnil) (.acons (.rcons (.var 2) .rnil) .anil)))) .rnil) (.acons (.rvar 0) (.acons (.rcons (.var 1) .rnil) (.acons (.rcons (.var 2) .rnil) .anil))))) 1), false), (.cmp .lss (.rlen (.rapp 120 (.acons (.rcons (.lit 1) .rnil) (.acons (.rvar 0) (.acons (.rcons (.var 1) .rnil) (.acons (.rcons (.var 2) .rnil) .anil))))) 1) (.rlen (.rapp 120 (.acons (.rcons (.app 135 (.acons (.rvar 0) (.acons (.rcons (.var 1) .rnil) (.acons (.rcons (.var 2) .rnil) .anil)))) .rnil) (.acons (.rvar 0) (.acons (.rcons (.var 1) .rnil) (.acons (.rcons (.var 2) .rnil) .anil))))) 1), false), (.cmp .lss (.rlen (.rapp 120 (.acons (.rcons (.lit 2) .rnil) (.acons (.rvar 0) (.acons (.rcons (.var 1) .rnil) (.acons (.rcons (.var 2) .rnil) .anil))))) 1) (.rlen (.rapp 120 (.acons (.rcons (.app 135 (.acons (.rvar 0) (.acons (.rcons (.var 1) .rnil) (.acons (.rcons (.var 2) .rnil) .anil)))) .rnil) (.acons (.rvar 0) (.acons (.rcons (.var 1) .rnil) (.acons (.rcons (.var 2) .rnil) .anil))))) 1), false)], .ret (.bool false) ⟨0, .nil⟩), ([(.cmp .lss (.lit 2) (.app 135 (.acons (.rvar 0) (.acons (.rcons (.var 1) .rnil) (.acons (.rcons (.var 2) .rnil) .anil)))), false), (.cmp .eql (.rlen (.rapp 120 (.acons (.rcons (.lit 2) .rnil) (.acons (.rvar 0) (.acons (.rcons (.var 1) .rnil) (.acons (.rcons (.var 2) .rnil) .anil))))) 1) (.rlen (.rapp 120 (.acons (.rcons (.app 135 (.acons (.rvar 0) (.acons (.rcons (.var 1) .rnil) (.acons (.rcons (.var 2) .rnil) .anil)))) .rnil) (.acons (.rvar 0) (.acons (.rcons (.var 1) .rnil) (.acons (.rcons (.var 2) .rnil) .anil))))) 1), true), (.cmp .eql (.rlen (.rapp 120 (.acons (.rcons (.lit 1) .rnil) (.acons (.rvar 0) (.acons (.rcons (.var 1) .rnil) (.acons (.rcons (.var 2) .rnil) .anil))))) 1) (.rlen (.rapp 120 (.acons (.rcons (.app 135 (.acons (.rvar 0) (.acons (.rcons (.var 1) .rnil) (.acons (.rcons (.var 2) .rnil) .anil)))) .rnil) (.acons (.rvar 0) (.acons (.rcons (.var 1) .rnil) (.acons (.rcons (.var 2) .rnil) .anil))))) 1), false), (.cmp .eql (.rlen (.rapp 120 (.acons (.rcons (.lit 0) .rnil) (.acons (.rvar 0) (.acons (.rcons (.var 1) .rnil) (.acons (.rcons (.var 2) .rnil) .anil))))) 1) (.rlen (.rapp 120 (.acons (.rcons (.app 135 (.acons (.rvar 0) (.acons (.rcons (.var 1) .rnil) (.acons (.rcons (.var 2) .rnil) .anil)))) .rnil) (.acons (.rvar 0) (.acons (.rcons (.var 1) .rnil) (.acons (.rcons (.var 2) .rnil) .anil))))) 1), false), (.cmp .eql (.app 134 .anil) (.lit 0), false), (.cmp .lss (.lit 600) (.rlen (.rvar 0) 1), false), (.cmp .eql (.app 136 (.acons (.rvar 0) (.acons (.rcons (.var 1) .rnil) (.acons (.rcons (.var 2) .rnil) .anil)))) (.lit 0), true), (.cmp .eql (.app 121 (.acons (.rcons (.app 135 (.acons (.rvar 0) (.acons (.rcons (.var 1) .rnil) (.acons (.rcons (.var 2) .rnil) .anil)))) .rnil) (.acons (.rvar 0) (.acons (.rcons (.var 1) .rnil) (.acons (.rcons (.var 2) .rnil) .anil))))) (.lit 0), true), (.cmp .lss (.lit 0) (.rlen (.rapp 120 (.acons (.rcons (.app 135 (.acons (.rvar 0) (.acons (.rcons (.var 1) .rnil) (.acons (.rcons (.var 2) .rnil) .anil)))) .rnil) (.acons (.rvar 0) (.acons (.rcons (.var 1) .rnil) (.acons (.rcons (.var 2) .rnil) .anil))))) 1), true), (.cmp .eql (.app 121 (.acons (.rcons (.lit 0) .rnil) (.acons (.rvar 0) (.acons (.rcons (.var 1) .rnil) (.acons (.rcons (.var 2) .rnil) .anil))))) (.lit 0), true), (.cmp .lss (.lit 0) (.rlen (.rapp 120 (.acons (.rcons (.lit 0) .rnil) (.acons (.rvar 0) (.acons (.rcons (.var 1) .rnil) (.acons (.rcons (.var 2) .rnil) .anil))))) 1), true), (.cmp .eql (.app 121 (.acons (.rcons (.lit 1) .rnil) (.acons (.rvar 0) (.acons (.rcons (.var 1) .rnil) (.acons (.rcons (.var 2) .rnil) .anil))))) (.lit 0), true), (.cmp .lss (.lit 0) (.rlen (.rapp 120 (.acons (.rcons (.lit 1) .rnil) (.acons (.rvar 0) (.acons (.rcons (.var 1) .rnil) (.acons (.rcons (.var 2) .rnil) .anil))))) 1), true), (.cmp .eql (.app 121 (.acons (.rcons (.lit 2) .rnil) (.acons (.rvar 0) (.acons (.rcons (.var 1) .rnil) (.acons (.rcons (.var 2) .rnil) .anil))))) (.lit 0), true), (.cmp .lss (.lit 0) (.rlen (.rapp 120 (.acons (.rcons (.lit 2) .rnil) (.acons (.rvar 0) (.acons (.rcons (.var 1) .rnil) (.acons (.rcons (.var 2) .rnil) .anil))))) 1), true), (.cmp .lss (.rlen (.rapp 120 (.acons (.rcons (.lit 0) .rnil) (.acons (.rvar 0) (.acons (.rcons (.var 1) .rnil) (.acons (.rcons (.var 2) .rnil) .anil))))) 1) (.rlen (.rapp 120 (.acons (.rcons (.app 135 (.acons (.rvar 0) (.acons (.rcons (.var 1) .rnil) (.acons (.rcons (.var 2) .rnil) .anil)))) .rnil) (.acons (.rvar 0) (.acons (.rcons (.var 1) .rnil) (.acons (.rcons (.var 2) .rnil) .anil))))) 1), false), (.cmp .lss (.rlen (.rapp 120 (.acons (.rcons (.lit 1) .rnil) (.acons (.rvar 0) (.acons (.rcons (.var 1) .rnil) (.acons (.rcons (.var 2) .rnil) .anil))))) 1) (.rlen (.rapp 120 (.acons (.rcons (.app 135 (.acons (.rvar 0) (.acons (.rcons (.var 1) .rnil) (.acons (.rcons (.var 2) .rnil) .anil)))) .rnil) (.acons (.rvar 0) (.acons (.rcons (.var 1) .rnil) (.acons (.rcons (.var 2) .rnil) .anil))))) 1), false), (.cmp .lss (.rlen (.rapp 120 (.acons (.rcons (.lit 2) .rnil) (.acons (.rvar 0) (.acons (.rcons (.var 1) .rnil) (.acons (.rcons (.var 2) .rnil) .anil))))) 1) (.rlen (.rapp 120 (.acons (.rcons (.app 135 (.acons (.rvar 0) (.acons (.rcons (.var 1) .rnil) (.acons (.rcons (.var 2) .rnil) .anil)))) .rnil) (.acons (.rvar 0) (.acons (.rcons (.var 1) .rnil) (.acons (.rcons (.var 2) .rnil) .anil))))) 1), false)], .ret (.bool true) ⟨0, .nil⟩), ([(.cmp .eql (.rlen (.rapp 120 (.acons (.rcons (.lit 2) .rnil) (.acons (.rvar 0) (.acons (.rcons (.var 1) .rnil) (.acons (.rcons (.var 2) .rnil) .anil))))) 1) (.rlen (.rapp 120 (.acons (.rcons (.app 135 (.acons (.rvar 0) (.acons (.rcons (.var 1) .rnil) (.acons (.rcons (.var 2) .rnil) .anil)))) .rnil) (.acons (.rvar 0) (.acons (.rcons (.var 1) .rnil) (.acons (.rcons (.var 2) .rnil) .anil))))) 1), false), (.cmp .eql (.rlen (.rapp 120 (.acons (.rcons (.lit 1) .rnil) (.acons (.rvar 0) (.acons (.rcons (.var 1) .rnil) (.acons (.rcons (.var 2) .rnil) .anil))))) 1) (.rlen (.rapp 120 (.acons (.rcons (.app 135 (.acons (.rvar 0) (.acons (.rcons (.var 1) .rnil) (.acons (.rcons (.var 2) .rnil) .anil)))) .rnil) (.acons (.rvar 0) (.acons (.rcons (.var 1) .rnil) (.acons (.rcons (.var 2) .rnil) .anil))))) 1), false), (.cmp .eql (.rlen (.rapp 120 (.acons (.rcons (.lit 0) .rnil) (.acons (.rvar 0) (.acons (.rcons (.var 1) .rnil) (.acons (.rcons (.var 2) .rnil) .anil))))) 1) (.rlen (.rapp 120 (.acons (.rcons (.app 135 (.acons (.rvar 0) (.acons (.rcons (.var 1) .rnil) (.acons (.rcons (.var 2) .rnil) .anil)))) .rnil) (.acons (.rvar 0) (.acons (.rcons (.var 1) .rnil) (.acons (.rcons (.var 2) .rnil) .anil))))) 1), false), (.cmp .eql (.app 134 .anil) (.lit 0), false), (.cmp .lss (.lit 600) (.rlen (.rvar 0) 1), false), (.cmp .eql (.app 136 (.acons (.rvar 0) (.acons (.rcons (.var 1) .rnil) (.acons (.rcons (.var 2) .rnil) .anil)))) (.lit 0), true), (.cmp .eql (.app 121 (.acons (.rcons (.app 135 (.acons (.rvar 0) (.acons (.rcons (.var 1) .rnil) (.acons (.rcons (.var 2) .rnil) .anil)))) .rnil) (.acons (.rvar 0) (.acons (.rcons (.var 1) .rnil) (.acons (.rcons (.var 2) .rnil) .anil))))) (.lit 0), true), (.cmp .lss (.lit 0) (.rlen (.rapp 120 (.acons (.rcons (.app 135 (.acons (.rvar 0) (.acons (.rcons (.var 1) .rnil) (.acons (.rcons (.var 2) .rnil) .anil)))) .rnil) (.acons (.rvar 0) (.acons (.rcons (.var 1) .rnil) (.acons (.rcons (.var 2) .rnil) .anil))))) 1), true), (.cmp .eql (.app 121 (.acons (.rcons (.lit 0) .rnil) (.acons (.rvar 0) (.acons (.rcons (.var 1) .rnil) (.acons (.rcons (.var 2) .rnil) .anil))))) (.lit 0), true), (.cmp .lss (.lit 0) (.rlen (.rapp 120 (.acons (.rcons (.lit 0) .rnil) (.acons (.rvar 0) (.acons (.rcons (.var 1) .rnil) (.acons (.rcons (.var 2) .rnil) .anil))))) 1), true), (.cmp .eql (.app 121 (.acons (.rcons (.lit 1) .rnil) (.acons (.rvar 0) (.acons (.rcons (.var 1) .rnil) (.acons (.rcons (.var 2) .rnil) .anil))))) (.lit 0), true), (.cmp .lss (.lit 0) (.rlen (.rapp 120 (.acons (.rcons (.lit 1) .rnil) (.acons (.rvar 0) (.acons (.rcons (.var 1) .rnil) (.acons (.rcons (.var 2) .rnil) .anil))))) 1), true), (.cmp .eql (.app 121 (.acons (.rcons (.lit 2) .rnil) (.acons (.rvar 0) (.acons (.rcons (.var 1) .rnil) (.acons (.rcons (.var 2) .rnil) .anil))))) (.lit 0), true), (.cmp .lss (.lit 0) (.rlen (.rapp 120 (.acons (.rcons (.lit 2) .rnil) (.acons (.rvar 0) (.acons (.rcons (.var 1) .rnil) (.acons (.rcons (.var 2) .rnil) .anil))))) 1), true), (.cmp .lss (.rlen (.rapp 120 (.acons (.rcons (.lit 0) .rnil) (.acons (.rvar 0) (.acons (.rcons (.var 1) .rnil) (.acons (.rcons (.var 2) .rnil) .anil))))) 1) (.rlen (.rapp 120 (.acons (.rcons (.app 135 (.acons (.rvar 0) (.acons (.rcons (.var 1) .rnil) (.acons (.rcons (.var 2) .rnil) .anil)))) .rnil) (.acons (.rvar 0) (.acons (.rcons (.var 1) .rnil) (.acons (.rcons (.var 2) .rnil) .anil))))) 1), false), (.cmp .lss (.rlen (.rapp 120 (.acons (.rcons (.lit 1) .rnil) (.acons (.rvar 0) (.acons (.rcons (.var 1) .rnil) (.acons (.rcons (.var 2) .rnil) .anil))))) 1) (.rlen (.rapp 120 (.acons (.rcons (.app 135 (.acons (.rvar 0) (.acons (.rcons (.var 1) .rnil) (.acons (.rcons (.var 2) .rnil) .anil)))) .rnil) (.acons (.rvar 0) (.acons (.rcons (.var 1) .rnil) (.acons (.rcons (.var 2) .rnil) .anil))))) 1), false), (.cmp .lss (.rlen (.rapp 120 (.acons (.rcons (.lit 2) .rnil) (.acons (.rvar 0) (.acons (.rcons (.var 1) .rnil) (.acons (.rcons (.var 2) .rnil) .anil))))) 1) (.rlen (.rapp 120 (.acons (.rcons (.app 135 (.acons (.rvar 0) (.acons (.rcons (.var 1) .rnil) (.acons (.rcons (.var 2) .rnil) .anil)))) .rnil) (.acons (.rvar 0) (.acons (.rcons (.var 1) .rnil) (.acons (.rcons (.var 2) .rnil) .anil))))) 1), false)], .ret (.bool true) ⟨0, .nil⟩)] := by kernel_rfl

end Go.Proofs.Ytkfejcffacbngaa.J


namespace Go.Proofs.Ytkfejcffacbngaa.J

open Go Go.Sym

set_option linter.unusedVariables false

theorem knTBest_ok : ∀ env : Env, env.fn = FNtc → KnOk Try.prog env knTBest := fun env h =>
  knOk_cons (knOk_cons (knOk_cons (knOk_cons knOk_nil (Pc.ct_ok h tput_tc)) (Pc.ct_ok h tbestD_ok)) (Pc.ct_ok h tbest_ok)) (Pc.ct_ok h taw_ok)

end Go.Proofs.Ytkfejcffacbngaa.J


namespace Go.Proofs.Ytkfejcffacbngaa.J

open Go Go.Sym

set_option linter.unusedVariables false

theorem tgets_inst {F : FuncId} {aks : List ArgK} {kn : Kn} (hk : aks.length = 3) (hkn : ∀ env : Env, env.fn = FNtc → KnOk Try.prog env kn) (hak : ∀ (e0 : Env) (l : List Int) (W H : Int), ArgsE e0 0 aks [l, [W], [H]] → e0.row 0 = l ∧ vInt (e0.val 1) = W ∧ vInt (e0.val 2) = H) {w : World} {vs : Array Value} {l : List Int} {W H : Int} (hargs : ArgsAre w vs.toList aks [l, [W], [H]]) {aa : As} {outs : List Leaf} {q : Nat} (hent : entryK Try.prog kn 1 900 F [] 3 (argSVs 0 aks) q aa = some outs)
    (hall : ∀ e0 : Env, e0.fn = FNtc → e0.row 0 = l → vInt (e0.val 1) = W → vInt (e0.val 2) = H →
      AsOk e0 aa ∧ allLeaves (fun lf => AsOk e0 lf.1 → StepL (fun _ _ => False) (fun _ _ => (0, 0)) none e0 lf.2) outs) : Calls Try.prog F vs w fun e w' => e = .returned (.bool true) ∧ RowKit.Below w.heap.size w w' := by
  refine law_floyd_as (FN := FNtc) mix hkn (by omega) hent hargs fun e0 hf ha => ?_
  obtain ⟨h0, h1, h2⟩ := hak e0 l W H ha
  exact hall e0 hf h0 h1 h2

theorem akB (e0 : Env) (l : List Int) (W H : Int) (ha : ArgsE e0 0 akTB [l, [W], [H]]) : e0.row 0 = l ∧ vInt (e0.val 1) = W ∧ vInt (e0.val 2) = H := by
  simp only [ArgsE, ArgE, List.cons.injEq] at ha
  obtain ⟨_, _, ⟨rfl, rfl⟩, ⟨h0, _⟩, _, _, ⟨rfl, rfl⟩, h1, _, _, ⟨rfl, rfl⟩, h2, _⟩ := ha
  simp only [List.cons.injEq, and_true] at h1 h2
  exact ⟨h0, h1.symm, h2.symm⟩

end Go.Proofs.Ytkfejcffacbngaa.J


namespace Go.Proofs.Ytkfejcffacbngaa.J

open Go Go.Sym

set_option linter.unusedVariables false

theorem tbest_O {l : List Int} {W H : Int} (h : (tbestM l W H).2 = 0) : (tputM 0 l W H).2 = 0 := by
  by_cases h0 : (tputM 0 l W H).2 = 0
  · exact h0
  · rw [tbest_E h0] at h; exact absurd h h0

theorem tbest_min {l : List Int} {W H : Int} (h : (tbestM l W H).2 = 0) : 0 ≤ (tbestM l W H).1 ∧ (tbestM l W H).1 ≤ 2 ∧
    (∀ j : Int, 0 ≤ j ∧ j ≤ 2 → tlenM (tbestM l W H).1 l W ≤ tlenM j l W ∧ (tlenM (tbestM l W H).1 l W = tlenM j l W → (tbestM l W H).1 ≤ j)) := by
  obtain ⟨h1, _, h3, h4, _⟩ := tput_O (tbest_O h)
  rw [tbO h1 h3 h4]
  simp only
  have hj : ∀ j : Int, 0 ≤ j ∧ j ≤ 2 → j = 0 ∨ j = 1 ∨ j = 2 := fun j hj => by omega
  split <;> split <;> refine ⟨by decide, by decide, fun j h => ?_⟩ <;> rcases hj j h with rfl | rfl | rfl <;> omega

set_option maxHeartbeats 1000000 in
theorem tbests_law {w : World} {vs : Array Value} {ls : List (List Int)} (hargs : ArgsAre w vs.toList akTB ls) : Calls Try.prog 8 vs w fun e w' => e = .returned (.bool true) ∧ RowKit.Below w.heap.size w w' := by
  obtain ⟨l, W, H, rfl⟩ := pc_rows (c := pcTB) hargs
  by_cases hl : l.length ≤ 600
  case neg =>
    refine tgets_inst rfl knTBest_ok akB hargs tbests_0 fun e0 hf q0 q1 q2 => ⟨?_, ⟨fun _ => rfl, trivial⟩⟩
    simp only [awT, ltR, l0, AsOk_cons, AsOk_nil, BE.eval, cmpI, IE.eval, IE.reval, IE.aeval, hf, q0, FNtc_134, List.headD_cons, Nat.div_one]
    simp; omega
  by_cases hc : (tbestM l W H).2 = 0
  case neg =>
    refine tgets_inst rfl knTBest_ok akB hargs tbests_1 fun e0 hf q0 q1 q2 => ⟨?_, ⟨fun _ => rfl, trivial⟩⟩
    simp only [awT, ltR, l0, eB, gQ, AsOk_cons, AsOk_nil, BE.eval, cmpI, IE.eval, IE.reval, IE.aeval, hf, q0, q1, q2, FNtc_134, FNtc_136, List.headD_cons, Nat.div_one]
    simp [hc]; omega
  have h0 := tbest_O hc
  obtain ⟨m0, m1, m2⟩ := tbest_min hc
  obtain ⟨K, hK⟩ : ∃ K, (tbestM l W H).1 = K := ⟨_, rfl⟩
  rw [hK] at m0 m1 m2
  obtain ⟨a0, b0, c0⟩ := tput_k h0 (k := 0) (by decide)
  obtain ⟨a1, b1, c1⟩ := tput_k h0 (k := 1) (by decide)
  obtain ⟨a2, b2, c2⟩ := tput_k h0 (k := 2) (by decide)
  obtain ⟨aK, bK, cK⟩ := tput_k h0 (k := K) ⟨m0, m1⟩
  have a0' : (tputM 0 l W H).2 = 0 := by rw [a0]
  have a1' : (tputM 1 l W H).2 = 0 := by rw [a1]
  have a2' : (tputM 2 l W H).2 = 0 := by rw [a2]
  have aK' : (tputM K l W H).2 = 0 := by rw [aK]
  have l0' : 0 ≤ tlenM 0 l W := by simp [tlenM]
  have l1' : 0 ≤ tlenM 1 l W := by simp [tlenM]
  have l2' : 0 ≤ tlenM 2 l W := by simp [tlenM]
  have lK' : 0 ≤ tlenM K l W := by simp [tlenM]
  have n0 := m2 0 (by decide)
  have n1 := m2 1 (by decide)
  have n2 := m2 2 (by decide)
  refine tgets_inst rfl knTBest_ok akB hargs tbests_2 fun e0 hf q0 q1 q2 => ⟨?_, ?_⟩
  · simp only [fineB, lessB, pB, kB, eB, awT, ltR, l0, gQ, List.cons_append, List.nil_append, AsOk_cons, AsOk_nil, BE.eval, cmpI, IE.eval, IE.reval, IE.aeval, hf, q0, q1, q2, FNtc_134, FNtc_135, FNtc_136, FNtc_120, FNtc_121, hc, hK, a0', a1', a2', aK', b0, b1, b2, bK, List.headD_cons, Nat.div_one]
    simp; omega
  · simp only [allLeaves, AsOk_cons, AsOk_nil, BE.eval, cmpI, IE.eval, IE.reval, IE.aeval, hf, q0, q1, q2, FNtc_134, FNtc_135, FNtc_136, FNtc_120, FNtc_121, hc, hK, b0, b1, b2, bK, List.headD_cons, Nat.div_one, and_true, decide_eq_true_eq, decide_eq_false_iff_not]
    repeat' refine And.intro ?_ ?_
    all_goals intro hA
    all_goals first
      | rfl
      | (exfalso; omega)

end Go.Proofs.Ytkfejcffacbngaa.J

