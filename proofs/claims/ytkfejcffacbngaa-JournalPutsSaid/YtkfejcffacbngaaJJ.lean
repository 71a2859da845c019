import Derived.Test.YtkfejcffacbngaaJI

namespace Go.Proofs.Ytkfejcffacbngaa.J

open Go Go.Sym

set_option linter.unusedVariables false

def tailM (s : Int) : List Int := [s % 256, s / 256 % 256, s / 65536 % 256, s / 16777216]

def sealM (b : List Int) : List Int := b ++ tailM (crcM 0 b)

def openC (b : List Int) : Int := if b.length < 4 then 14 else if w8L (sealM (b.take (b.length - 4))) = w8L b then 0 else 10

def openM (b : List Int) : List Int := if openC b = 0 then b.take (b.length - 4) else []

def g87 : List (List Int) → List Int
  | [[s]] => tailM s
  | _ => []

def g88 : List (List Int) → List Int
  | [b] => sealM b
  | _ => []

def g89 : List (List Int) → List Int
  | [b] => b
  | _ => []

def g90 : List (List Int) → List Int
  | [b] => openM b
  | _ => []

def g91 : List (List Int) → List Int
  | [b] => [openC b]
  | _ => []

def FNd : Nat → List (List Int) → List Int
  | 87, l => g87 l
  | 88, l => g88 l
  | 89, l => g89 l
  | 90, l => g90 l
  | 91, l => g91 l
  | i, l => FNc i l

theorem FNd_87 (s : Int) : FNd 87 [[s]] = tailM s := rfl
theorem FNd_88 (b : List Int) : FNd 88 [b] = sealM b := rfl
theorem FNd_89 (b : List Int) : FNd 89 [b] = b := rfl
theorem FNd_90 (b : List Int) : FNd 90 [b] = openM b := rfl
theorem FNd_91 (b : List Int) : FNd 91 [b] = [openC b] := rfl
theorem FNd_86 (s : Int) (b : List Int) : FNd 86 [[s], b] = [crcM s b] := rfl

abbrev asS : As := [(atmB lnB (.lit 4194304), true)]

def pcSeal : Pc := ⟨113, [.sl [.u8]], [.sl 5 [.u8]], 88, [(0, 0, 4194304)], []⟩
def pcSealR : Pc := ⟨114, [.sl [.u8]], [.sl 5 [.u8]], 88, [(0, 0, 4194304)], []⟩
def pcClone : Pc := ⟨144, [.sl [.u8]], [.sl 5 [.u8]], 89, [(0, 0, 4194304)], []⟩
def pcOpen : Pc := ⟨115, [.sl [.u8]], [.sl 5 [.u8], .int .i64], 90, [(0, 0, 4194304)], []⟩

abbrev asS4 : As := [(.cmp .lss (.bin .add .i64 lnB (.lit 4)) (.lit 0), false), (.cmp .lss (.lit 140737488355328) (.bin .add .i64 lnB (.lit 4)), false), (atmB lnB (.lit 4194304), true)]

theorem seal_entry : entryK Try.prog [pcMore.ct] 50 200 113 [] 1 (argSVs 0 pcSeal.aks) 30 asS4 = some [([(.cmp .lss (.bin .add .i64 (.rlen (.rvar 0) 1) (.lit 4)) (.lit 0), false), (.cmp .lss (.lit 140737488355328) (.bin .add .i64 (.rlen (.rvar 0) 1) (.lit 4)), false), (.not (.cmp .lss (.lit 4194304) (.rlen (.rvar 0) 1)), true)], .ret (.rsl (.own 3) (.lit 0) (.plus (.rlen (.rvar 0) 1) (.lit 4)) 1) ⟨4, (.node none (.node none (.node (some ⟨5, 0, [], .nil, true, (some (.cat (.cat (.sub (.rep (.bin .add .i64 (.rlen (.rvar 0) 1) (.lit 4)) (.rcon [0])) (.lit 0) (.lit 0) 1) (.rvar 0)) (.rcons (.wrap .u8 (.app 86 (.acons (.rcons (.lit 0) .rnil) (.acons (.rvar 0) .anil)))) (.rcons (.wrap .u8 (.bin .shr .u32 (.app 86 (.acons (.rcons (.lit 0) .rnil) (.acons (.rvar 0) .anil))) (.lit 8))) (.rcons (.wrap .u8 (.bin .shr .u32 (.app 86 (.acons (.rcons (.lit 0) .rnil) (.acons (.rvar 0) .anil))) (.lit 16))) (.rcons (.wrap .u8 (.bin .shr .u32 (.app 86 (.acons (.rcons (.lit 0) .rnil) (.acons (.rvar 0) .anil))) (.lit 24))) .rnil)))), (.plus (.rlen (.rvar 0) 1) (.lit 4), [.u8])))⟩) .nil .nil) .nil) (.node (some ⟨5, 4, [.sint .u8 (.wrap .u8 (.app 86 (.acons (.rcons (.lit 0) .rnil) (.acons (.rvar 0) .anil)))), .sint .u8 (.wrap .u8 (.bin .shr .u32 (.app 86 (.acons (.rcons (.lit 0) .rnil) (.acons (.rvar 0) .anil))) (.lit 8))), .sint .u8 (.wrap .u8 (.bin .shr .u32 (.app 86 (.acons (.rcons (.lit 0) .rnil) (.acons (.rvar 0) .anil))) (.lit 16))), .sint .u8 (.wrap .u8 (.bin .shr .u32 (.app 86 (.acons (.rcons (.lit 0) .rnil) (.acons (.rvar 0) .anil))) (.lit 24)))], .nil, false, none⟩) .nil .nil))⟩)] := by kernel_rfl

theorem sealR_entry : entryK Try.prog [pcMoreR.ct] 50 200 114 [] 1 (argSVs 0 pcSealR.aks) 30 asS = some [([(.not (.cmp .lss (.lit 4194304) (.rlen (.rvar 0) 1)), true)], .ret (.rsl (.own 3) (.lit 0) (.plus (.rlen (.rvar 0) 1) (.lit 4)) 1) ⟨4, (.node none (.node none (.node (some ⟨5, 0, [], .nil, true, (some (.cat (.cat .rnil (.rvar 0)) (.rcons (.wrap .u8 (.bin .rem .u32 (.app 86 (.acons (.rcons (.lit 0) .rnil) (.acons (.rvar 0) .anil))) (.lit 256))) (.rcons (.wrap .u8 (.bin .rem .u32 (.bin .quo .u32 (.app 86 (.acons (.rcons (.lit 0) .rnil) (.acons (.rvar 0) .anil))) (.lit 256)) (.lit 256))) (.rcons (.wrap .u8 (.bin .rem .u32 (.bin .quo .u32 (.app 86 (.acons (.rcons (.lit 0) .rnil) (.acons (.rvar 0) .anil))) (.lit 65536)) (.lit 256))) (.rcons (.wrap .u8 (.bin .quo .u32 (.app 86 (.acons (.rcons (.lit 0) .rnil) (.acons (.rvar 0) .anil))) (.lit 16777216))) .rnil)))), (.plus (.rlen (.rvar 0) 1) (.lit 4), [.u8])))⟩) .nil .nil) .nil) (.node (some ⟨5, 4, [.sint .u8 (.wrap .u8 (.bin .rem .u32 (.app 86 (.acons (.rcons (.lit 0) .rnil) (.acons (.rvar 0) .anil))) (.lit 256))), .sint .u8 (.wrap .u8 (.bin .rem .u32 (.bin .quo .u32 (.app 86 (.acons (.rcons (.lit 0) .rnil) (.acons (.rvar 0) .anil))) (.lit 256)) (.lit 256))), .sint .u8 (.wrap .u8 (.bin .rem .u32 (.bin .quo .u32 (.app 86 (.acons (.rcons (.lit 0) .rnil) (.acons (.rvar 0) .anil))) (.lit 65536)) (.lit 256))), .sint .u8 (.wrap .u8 (.bin .quo .u32 (.app 86 (.acons (.rcons (.lit 0) .rnil) (.acons (.rvar 0) .anil))) (.lit 16777216)))], .nil, false, none⟩) .nil .nil))⟩)] := by kernel_rfl

abbrev asC : As := [(.cmp .lss (.lit 0) lnB, true), (atmB lnB (.lit 4194304), true)]

theorem clone_entry : entryK Try.prog [] 50 200 144 [] 1 (argSVs 0 pcClone.aks) 30 asC = some [([(.cmp .lss (.lit 0) (.rlen (.rvar 0) 1), true), (.not (.cmp .lss (.lit 4194304) (.rlen (.rvar 0) 1)), true)], .ret (.rsl (.own 1) (.lit 0) (.rlen (.rvar 0) 1) 1) ⟨2, (.node none (.node (some ⟨5, 0, [], .nil, true, (some (.cat .rnil (.rvar 0), (.rlen (.rvar 0) 1, [.u8])))⟩) .nil .nil) .nil)⟩)] := by kernel_rfl

theorem clone_empty : entryK Try.prog [] 50 200 144 [] 1 [.eslice] 30 [] = some [([], .ret (.slice 0 0 0 0) ⟨1, (.node (some ⟨5, 0, [], .nil, false, none⟩) .nil .nil)⟩)] := by kernel_rfl

abbrev innE : IE := .sub (.rvar 0) (.lit 0) (.bin .sub .i64 lnB (.lit 4)) 1

abbrev asP : As := [(.cmp .lss (.lit 0) (.rlen (.rapp 88 (.acons innE .anil)) 1), true), (.cmp .lss (.bin .sub .i64 lnB (.lit 4)) (.lit 0), false), (.cmp .lss lnB (.bin .sub .i64 lnB (.lit 4)), false), (.cmp .lss lnB (.lit 4), false), (atmB lnB (.lit 4194304), true)]

theorem open_short : entryK Try.prog [pcSeal.ct, pcClone.ct] 50 200 115 [] 1 (argSVs 0 pcOpen.aks) 30 [(.cmp .lss lnB (.lit 4), true)] = some [([(.cmp .lss (.rlen (.rvar 0) 1) (.lit 4), true)], .ret (.tuple [.nilslice, .int .i64 14]) ⟨0, .nil⟩)] := by kernel_rfl

theorem open_entry : entryK Try.prog [pcSeal.ct, pcClone.ct] 50 200 115 [] 1 (argSVs 0 pcOpen.aks) 30 asP = some [([(.cmp .lss (.lit 0) (.rlen (.rapp 89 (.acons (.sub (.rvar 0) (.lit 0) (.bin .sub .i64 (.rlen (.rvar 0) 1) (.lit 4)) 1) .anil)) 1), true), (.req (.w8 (.rapp 88 (.acons (.sub (.rvar 0) (.lit 0) (.bin .sub .i64 (.rlen (.rvar 0) 1) (.lit 4)) 1) .anil))) (.w8 (.rvar 0)), true), (.cmp .lss (.lit 0) (.rlen (.rapp 88 (.acons (.sub (.rvar 0) (.lit 0) (.bin .sub .i64 (.rlen (.rvar 0) 1) (.lit 4)) 1) .anil)) 1), true), (.cmp .lss (.bin .sub .i64 (.rlen (.rvar 0) 1) (.lit 4)) (.lit 0), false), (.cmp .lss (.rlen (.rvar 0) 1) (.bin .sub .i64 (.rlen (.rvar 0) 1) (.lit 4)), false), (.cmp .lss (.rlen (.rvar 0) 1) (.lit 4), false), (.not (.cmp .lss (.lit 4194304) (.rlen (.rvar 0) 1)), true)], .ret (.tuple [.rsl (.own 1) (.lit 0) (.rlen (.rapp 89 (.acons (.sub (.rvar 0) (.lit 0) (.bin .sub .i64 (.rlen (.rvar 0) 1) (.lit 4)) 1) .anil)) 1) 1, .int .i64 0]) ⟨2, (.node (some ⟨5, 0, [], .nil, true, (some (.rapp 88 (.acons (.sub (.rvar 0) (.lit 0) (.bin .sub .i64 (.rlen (.rvar 0) 1) (.lit 4)) 1) .anil), (.rlen (.rapp 88 (.acons (.sub (.rvar 0) (.lit 0) (.bin .sub .i64 (.rlen (.rvar 0) 1) (.lit 4)) 1) .anil)) 1, [.u8])))⟩) (.node (some ⟨5, 0, [], .nil, true, (some (.rapp 89 (.acons (.sub (.rvar 0) (.lit 0) (.bin .sub .i64 (.rlen (.rvar 0) 1) (.lit 4)) 1) .anil), (.rlen (.rapp 89 (.acons (.sub (.rvar 0) (.lit 0) (.bin .sub .i64 (.rlen (.rvar 0) 1) (.lit 4)) 1) .anil)) 1, [.u8])))⟩) .nil .nil) .nil)⟩), ([(.cmp .lss (.lit 0) (.rlen (.rapp 89 (.acons (.sub (.rvar 0) (.lit 0) (.bin .sub .i64 (.rlen (.rvar 0) 1) (.lit 4)) 1) .anil)) 1), false), (.req (.w8 (.rapp 88 (.acons (.sub (.rvar 0) (.lit 0) (.bin .sub .i64 (.rlen (.rvar 0) 1) (.lit 4)) 1) .anil))) (.w8 (.rvar 0)), true), (.cmp .lss (.lit 0) (.rlen (.rapp 88 (.acons (.sub (.rvar 0) (.lit 0) (.bin .sub .i64 (.rlen (.rvar 0) 1) (.lit 4)) 1) .anil)) 1), true), (.cmp .lss (.bin .sub .i64 (.rlen (.rvar 0) 1) (.lit 4)) (.lit 0), false), (.cmp .lss (.rlen (.rvar 0) 1) (.bin .sub .i64 (.rlen (.rvar 0) 1) (.lit 4)), false), (.cmp .lss (.rlen (.rvar 0) 1) (.lit 4), false), (.not (.cmp .lss (.lit 4194304) (.rlen (.rvar 0) 1)), true)], .ret (.tuple [.e0, .int .i64 0]) ⟨0, .nil⟩), ([(.req (.w8 (.rapp 88 (.acons (.sub (.rvar 0) (.lit 0) (.bin .sub .i64 (.rlen (.rvar 0) 1) (.lit 4)) 1) .anil))) (.w8 (.rvar 0)), false), (.cmp .lss (.lit 0) (.rlen (.rapp 88 (.acons (.sub (.rvar 0) (.lit 0) (.bin .sub .i64 (.rlen (.rvar 0) 1) (.lit 4)) 1) .anil)) 1), true), (.cmp .lss (.bin .sub .i64 (.rlen (.rvar 0) 1) (.lit 4)) (.lit 0), false), (.cmp .lss (.rlen (.rvar 0) 1) (.bin .sub .i64 (.rlen (.rvar 0) 1) (.lit 4)), false), (.cmp .lss (.rlen (.rvar 0) 1) (.lit 4), false), (.not (.cmp .lss (.lit 4194304) (.rlen (.rvar 0) 1)), true)], .ret (.tuple [.nilslice, .int .i64 10]) ⟨0, .nil⟩)] := by kernel_rfl

end Go.Proofs.Ytkfejcffacbngaa.J
