/-
  No cell of these rows narrows 'for every input' (looked for: loops, veiled, ifaces, maps, wideKeys, modest, calm, conditions, laid).
  DERIVED. THE GIVEN ROWS OF THIS SEAT. 11 by the template 'for every input the law returns true; each argument reads behind the call as it read before'; 0 by the template 'total and deterministic' (their statements: YtggglodhdbhggaaTotals.lean).
  GIVEN WITH THE SEED: the statements are not yours to turn. If you find one false, say at which input.
  Laid BY PROGRAM, IN A SANDBOX (cutbox-rows.mjs): the forced cells as the released guide's own fill.sh prints them over the translation 46934912def2db6b… (all of the seat's roots in one cut). By AI agents, Wed Nov 11 2026. No macro, syntax, notation, axiom, sorry.
-/
import Derived.Test.YtggglodhdbhggaaChecked
import GoSem.Claim
import GoSem.ClaimJoined
import GoSem.ClaimMapViews
import Derived.JoinedTies
import Derived.KernelRfl
namespace Go.Proofs.Ytggglodhdbhggaa
/- THE CELL 'sum', in the pinned program and in every row, IS THE sha256 OF THE DUMP (.gsa) THAT YtggglodhdbhggaaProg.lean LOADS. Nothing in Lean hashes anything: it is a label: what it is worth is what the hold of that sum in a sandbox is worth. -/
noncomputable def Try.pinned : Pinned := { name := "ytggglodhdbhggaa", sum := "46934912def2db6b1e70e0cf971688ea8ecb30cf87e8c867368164787c8003ca", checked := Try.checked }
namespace Rows
def none {H : Type} : Left H := { results := [], args := [] }

/-- 'hachurelaw08.SlabNil': WHATEVER THE INPUT: true; the input reads as it did. -/
def slabNilSpec : ChangeSpec := { name := "slabNil", fn := fun _ => fun
  | [d1, d2, d3] => { results := [.lit (.bool true)], args := [d1, d2, d3] }
  | _ => none }
def slabNilRow : OpenClaim := { program := "ytggglodhdbhggaa", sum := "46934912def2db6b1e70e0cf971688ea8ecb30cf87e8c867368164787c8003ca", func := "hachure/hachurelaw08.SlabNil", spec := "slabNil", unfollowed := true, recurses := true, apart := false }
def SlabNilSaid : Prop := slabNilRow.holds Try.pinned (OpenSpec.ofChange slabNilSpec)

/-- ITS FALSE NEIGHBOUR: 'it returns false'. Refute it at one input. -/
def slabNilWrong : ChangeSpec := { name := "slabNil", fn := fun _ => fun
  | [d1, d2, d3] => { results := [.lit (.bool false)], args := [d1, d2, d3] }
  | _ => none }
def SlabNilWrongFalsely : Prop := slabNilRow.holds Try.pinned (OpenSpec.ofChange slabNilWrong)

/-- 'hachurelaw09.GridNil': WHATEVER THE INPUT: true; the input reads as it did. -/
def gridNilSpec : ChangeSpec := { name := "gridNil", fn := fun _ => fun
  | [d1, d2, d3, d4] => { results := [.lit (.bool true)], args := [d1, d2, d3, d4] }
  | _ => none }
def gridNilRow : OpenClaim := { program := "ytggglodhdbhggaa", sum := "46934912def2db6b1e70e0cf971688ea8ecb30cf87e8c867368164787c8003ca", func := "hachure/hachurelaw09.GridNil", spec := "gridNil", unfollowed := true, recurses := true, apart := false }
def GridNilSaid : Prop := gridNilRow.holds Try.pinned (OpenSpec.ofChange gridNilSpec)

/-- ITS FALSE NEIGHBOUR: 'it returns false'. Refute it at one input. -/
def gridNilWrong : ChangeSpec := { name := "gridNil", fn := fun _ => fun
  | [d1, d2, d3, d4] => { results := [.lit (.bool false)], args := [d1, d2, d3, d4] }
  | _ => none }
def GridNilWrongFalsely : Prop := gridNilRow.holds Try.pinned (OpenSpec.ofChange gridNilWrong)

/-- 'hachurelaw10.PaintNil': WHATEVER THE INPUT: true; the input reads as it did. -/
def paintNilSpec : ChangeSpec := { name := "paintNil", fn := fun _ => fun
  | [d1, d2, d3, d4] => { results := [.lit (.bool true)], args := [d1, d2, d3, d4] }
  | _ => none }
def paintNilRow : OpenClaim := { program := "ytggglodhdbhggaa", sum := "46934912def2db6b1e70e0cf971688ea8ecb30cf87e8c867368164787c8003ca", func := "hachure/hachurelaw10.PaintNil", spec := "paintNil", unfollowed := true, recurses := true, apart := false }
def PaintNilSaid : Prop := paintNilRow.holds Try.pinned (OpenSpec.ofChange paintNilSpec)

/-- ITS FALSE NEIGHBOUR: 'it returns false'. Refute it at one input. -/
def paintNilWrong : ChangeSpec := { name := "paintNil", fn := fun _ => fun
  | [d1, d2, d3, d4] => { results := [.lit (.bool false)], args := [d1, d2, d3, d4] }
  | _ => none }
def PaintNilWrongFalsely : Prop := paintNilRow.holds Try.pinned (OpenSpec.ofChange paintNilWrong)

/-- 'hachurelaw11.PatchNil': WHATEVER THE INPUT: true; the input reads as it did. -/
def patchNilSpec : ChangeSpec := { name := "patchNil", fn := fun _ => fun
  | [d] => { results := [.lit (.bool true)], args := [d] }
  | _ => none }
def patchNilRow : OpenClaim := { program := "ytggglodhdbhggaa", sum := "46934912def2db6b1e70e0cf971688ea8ecb30cf87e8c867368164787c8003ca", func := "hachure/hachurelaw11.PatchNil", spec := "patchNil", unfollowed := true, recurses := true, apart := false }
def PatchNilSaid : Prop := patchNilRow.holds Try.pinned (OpenSpec.ofChange patchNilSpec)

/-- ITS FALSE NEIGHBOUR: 'it returns false'. Refute it at one input. -/
def patchNilWrong : ChangeSpec := { name := "patchNil", fn := fun _ => fun
  | [d] => { results := [.lit (.bool false)], args := [d] }
  | _ => none }
def PatchNilWrongFalsely : Prop := patchNilRow.holds Try.pinned (OpenSpec.ofChange patchNilWrong)

/-- 'hachurelaw14.FileNil': WHATEVER THE INPUT: true; the input reads as it did. -/
def fileNilSpec : ChangeSpec := { name := "fileNil", fn := fun _ => fun
  | [d] => { results := [.lit (.bool true)], args := [d] }
  | _ => none }
def fileNilRow : OpenClaim := { program := "ytggglodhdbhggaa", sum := "46934912def2db6b1e70e0cf971688ea8ecb30cf87e8c867368164787c8003ca", func := "hachure/hachurelaw14.FileNil", spec := "fileNil", unfollowed := true, recurses := true, apart := false }
def FileNilSaid : Prop := fileNilRow.holds Try.pinned (OpenSpec.ofChange fileNilSpec)

/-- ITS FALSE NEIGHBOUR: 'it returns false'. Refute it at one input. -/
def fileNilWrong : ChangeSpec := { name := "fileNil", fn := fun _ => fun
  | [d] => { results := [.lit (.bool false)], args := [d] }
  | _ => none }
def FileNilWrongFalsely : Prop := fileNilRow.holds Try.pinned (OpenSpec.ofChange fileNilWrong)

/-- 'hachurelaw17.ProbeNil': WHATEVER THE INPUT: true; the input reads as it did. -/
def probeNilSpec : ChangeSpec := { name := "probeNil", fn := fun _ => fun
  | [d1, d2] => { results := [.lit (.bool true)], args := [d1, d2] }
  | _ => none }
def probeNilRow : OpenClaim := { program := "ytggglodhdbhggaa", sum := "46934912def2db6b1e70e0cf971688ea8ecb30cf87e8c867368164787c8003ca", func := "hachure/hachurelaw17.ProbeNil", spec := "probeNil", unfollowed := true, recurses := true, apart := false }
def ProbeNilSaid : Prop := probeNilRow.holds Try.pinned (OpenSpec.ofChange probeNilSpec)

/-- ITS FALSE NEIGHBOUR: 'it returns false'. Refute it at one input. -/
def probeNilWrong : ChangeSpec := { name := "probeNil", fn := fun _ => fun
  | [d1, d2] => { results := [.lit (.bool false)], args := [d1, d2] }
  | _ => none }
def ProbeNilWrongFalsely : Prop := probeNilRow.holds Try.pinned (OpenSpec.ofChange probeNilWrong)

/-- 'hachurelaw18.DownNil': WHATEVER THE INPUT: true; the input reads as it did. -/
def downNilSpec : ChangeSpec := { name := "downNil", fn := fun _ => fun
  | [d1, d2] => { results := [.lit (.bool true)], args := [d1, d2] }
  | _ => none }
def downNilRow : OpenClaim := { program := "ytggglodhdbhggaa", sum := "46934912def2db6b1e70e0cf971688ea8ecb30cf87e8c867368164787c8003ca", func := "hachure/hachurelaw18.DownNil", spec := "downNil", unfollowed := true, recurses := true, apart := false }
def DownNilSaid : Prop := downNilRow.holds Try.pinned (OpenSpec.ofChange downNilSpec)

/-- ITS FALSE NEIGHBOUR: 'it returns false'. Refute it at one input. -/
def downNilWrong : ChangeSpec := { name := "downNil", fn := fun _ => fun
  | [d1, d2] => { results := [.lit (.bool false)], args := [d1, d2] }
  | _ => none }
def DownNilWrongFalsely : Prop := downNilRow.holds Try.pinned (OpenSpec.ofChange downNilWrong)

/-- 'hachurelaw19.FenNil': WHATEVER THE INPUT: true; the input reads as it did. -/
def fenNilSpec : ChangeSpec := { name := "fenNil", fn := fun _ => fun
  | [d1, d2, d3] => { results := [.lit (.bool true)], args := [d1, d2, d3] }
  | _ => none }
def fenNilRow : OpenClaim := { program := "ytggglodhdbhggaa", sum := "46934912def2db6b1e70e0cf971688ea8ecb30cf87e8c867368164787c8003ca", func := "hachure/hachurelaw19.FenNil", spec := "fenNil", unfollowed := true, recurses := true, apart := false }
def FenNilSaid : Prop := fenNilRow.holds Try.pinned (OpenSpec.ofChange fenNilSpec)

/-- ITS FALSE NEIGHBOUR: 'it returns false'. Refute it at one input. -/
def fenNilWrong : ChangeSpec := { name := "fenNil", fn := fun _ => fun
  | [d1, d2, d3] => { results := [.lit (.bool false)], args := [d1, d2, d3] }
  | _ => none }
def FenNilWrongFalsely : Prop := fenNilRow.holds Try.pinned (OpenSpec.ofChange fenNilWrong)

/-- 'hachurelaw20.AreaNil': WHATEVER THE INPUT: true; the input reads as it did. -/
def areaNilSpec : ChangeSpec := { name := "areaNil", fn := fun _ => fun
  | [d1, d2] => { results := [.lit (.bool true)], args := [d1, d2] }
  | _ => none }
def areaNilRow : OpenClaim := { program := "ytggglodhdbhggaa", sum := "46934912def2db6b1e70e0cf971688ea8ecb30cf87e8c867368164787c8003ca", func := "hachure/hachurelaw20.AreaNil", spec := "areaNil", unfollowed := true, recurses := true, apart := false }
def AreaNilSaid : Prop := areaNilRow.holds Try.pinned (OpenSpec.ofChange areaNilSpec)

/-- ITS FALSE NEIGHBOUR: 'it returns false'. Refute it at one input. -/
def areaNilWrong : ChangeSpec := { name := "areaNil", fn := fun _ => fun
  | [d1, d2] => { results := [.lit (.bool false)], args := [d1, d2] }
  | _ => none }
def AreaNilWrongFalsely : Prop := areaNilRow.holds Try.pinned (OpenSpec.ofChange areaNilWrong)

/-- 'hachurelaw21.SparseNil': WHATEVER THE INPUT: true; the input reads as it did. -/
def sparseNilSpec : ChangeSpec := { name := "sparseNil", fn := fun _ => fun
  | [d1, d2, d3] => { results := [.lit (.bool true)], args := [d1, d2, d3] }
  | _ => none }
def sparseNilRow : OpenClaim := { program := "ytggglodhdbhggaa", sum := "46934912def2db6b1e70e0cf971688ea8ecb30cf87e8c867368164787c8003ca", func := "hachure/hachurelaw21.SparseNil", spec := "sparseNil", unfollowed := true, recurses := true, apart := false }
def SparseNilSaid : Prop := sparseNilRow.holds Try.pinned (OpenSpec.ofChange sparseNilSpec)

/-- ITS FALSE NEIGHBOUR: 'it returns false'. Refute it at one input. -/
def sparseNilWrong : ChangeSpec := { name := "sparseNil", fn := fun _ => fun
  | [d1, d2, d3] => { results := [.lit (.bool false)], args := [d1, d2, d3] }
  | _ => none }
def SparseNilWrongFalsely : Prop := sparseNilRow.holds Try.pinned (OpenSpec.ofChange sparseNilWrong)

/-- 'hachurelaw27.ViewNil': WHATEVER THE INPUT: true; the input reads as it did. -/
def viewNilSpec : ChangeSpec := { name := "viewNil", fn := fun _ => fun
  | [d1, d2, d3, d4] => { results := [.lit (.bool true)], args := [d1, d2, d3, d4] }
  | _ => none }
def viewNilRow : OpenClaim := { program := "ytggglodhdbhggaa", sum := "46934912def2db6b1e70e0cf971688ea8ecb30cf87e8c867368164787c8003ca", func := "hachure/hachurelaw27.ViewNil", spec := "viewNil", unfollowed := true, recurses := true, apart := false }
def ViewNilSaid : Prop := viewNilRow.holds Try.pinned (OpenSpec.ofChange viewNilSpec)

/-- ITS FALSE NEIGHBOUR: 'it returns false'. Refute it at one input. -/
def viewNilWrong : ChangeSpec := { name := "viewNil", fn := fun _ => fun
  | [d1, d2, d3, d4] => { results := [.lit (.bool false)], args := [d1, d2, d3, d4] }
  | _ => none }
def ViewNilWrongFalsely : Prop := viewNilRow.holds Try.pinned (OpenSpec.ofChange viewNilWrong)

/- THE SECOND FORM. 'bulk': how many values and letters a reading holds, each counted each time it is reached (what is shared counts as often as it is met; a slice's spare places count too). A statement '..UptoSaid' is the law's where the arguments, and the package variables that the reading takes, are together of bulk at most 1048576: NARROWER than '..Said'. Prove '..Said' where nothing that the law and all that it calls make is longer than what came in: it says more and counts as full. Else prove '..UptoSaid'. A law counts once. -/
mutual
def uptoBulk {H : Type} : DataW H → Nat
  | .lit (.string bytes) => bytes.length + 1
  | .lit _ => 1
  | .nil => 1
  | .ptr d => uptoBulk d + 1
  | .slice elems spare => uptoBulkAll elems + uptoBulkAll spare + 1
  | .agg parts => uptoBulkAll parts + 1
  | .iface _ d => uptoBulk d + 1
  | .map entries => uptoBulkEntries entries + 1
  | .held _ => 1
def uptoBulkAll {H : Type} : List (DataW H) → Nat
  | [] => 0
  | d :: r => uptoBulk d + uptoBulkAll r
def uptoBulkEntries {H : Type} : List (Lit × DataW H) → Nat
  | [] => 0
  | x :: r => uptoBulkEntry x + uptoBulkEntries r
def uptoBulkEntry {H : Type} : Lit × DataW H → Nat
  | (.string bytes, d) => bytes.length + uptoBulk d + 1
  | (_, d) => uptoBulk d + 1
 end
def uptoSmall : (H : Type) → List (DataW H) → Bool := fun _ ds => decide (uptoBulkAll ds ≤ 1048576)
def OpenSpec.upto (s : _root_.Go.ChangeSpec) : _root_.Go.OpenSpec := { _root_.Go.OpenSpec.ofChange s with cond := some uptoSmall }

/-- 'hachurelaw08.SlabNil', WHERE WHAT IT READS IS OF BULK AT MOST 1048576: true; the input reads as it did. -/
def slabNilUptoRow : OpenClaim := { program := "ytggglodhdbhggaa", sum := "46934912def2db6b1e70e0cf971688ea8ecb30cf87e8c867368164787c8003ca", func := "hachure/hachurelaw08.SlabNil", spec := "slabNil", unfollowed := true, recurses := true, apart := false, narrowed := true }
def SlabNilUptoSaid : Prop := slabNilUptoRow.holds Try.pinned (OpenSpec.upto slabNilSpec)

/-- 'hachurelaw09.GridNil', WHERE WHAT IT READS IS OF BULK AT MOST 1048576: true; the input reads as it did. -/
def gridNilUptoRow : OpenClaim := { program := "ytggglodhdbhggaa", sum := "46934912def2db6b1e70e0cf971688ea8ecb30cf87e8c867368164787c8003ca", func := "hachure/hachurelaw09.GridNil", spec := "gridNil", unfollowed := true, recurses := true, apart := false, narrowed := true }
def GridNilUptoSaid : Prop := gridNilUptoRow.holds Try.pinned (OpenSpec.upto gridNilSpec)

/-- 'hachurelaw10.PaintNil', WHERE WHAT IT READS IS OF BULK AT MOST 1048576: true; the input reads as it did. -/
def paintNilUptoRow : OpenClaim := { program := "ytggglodhdbhggaa", sum := "46934912def2db6b1e70e0cf971688ea8ecb30cf87e8c867368164787c8003ca", func := "hachure/hachurelaw10.PaintNil", spec := "paintNil", unfollowed := true, recurses := true, apart := false, narrowed := true }
def PaintNilUptoSaid : Prop := paintNilUptoRow.holds Try.pinned (OpenSpec.upto paintNilSpec)

/-- 'hachurelaw11.PatchNil', WHERE WHAT IT READS IS OF BULK AT MOST 1048576: true; the input reads as it did. -/
def patchNilUptoRow : OpenClaim := { program := "ytggglodhdbhggaa", sum := "46934912def2db6b1e70e0cf971688ea8ecb30cf87e8c867368164787c8003ca", func := "hachure/hachurelaw11.PatchNil", spec := "patchNil", unfollowed := true, recurses := true, apart := false, narrowed := true }
def PatchNilUptoSaid : Prop := patchNilUptoRow.holds Try.pinned (OpenSpec.upto patchNilSpec)

/-- 'hachurelaw14.FileNil', WHERE WHAT IT READS IS OF BULK AT MOST 1048576: true; the input reads as it did. -/
def fileNilUptoRow : OpenClaim := { program := "ytggglodhdbhggaa", sum := "46934912def2db6b1e70e0cf971688ea8ecb30cf87e8c867368164787c8003ca", func := "hachure/hachurelaw14.FileNil", spec := "fileNil", unfollowed := true, recurses := true, apart := false, narrowed := true }
def FileNilUptoSaid : Prop := fileNilUptoRow.holds Try.pinned (OpenSpec.upto fileNilSpec)

/-- 'hachurelaw17.ProbeNil', WHERE WHAT IT READS IS OF BULK AT MOST 1048576: true; the input reads as it did. -/
def probeNilUptoRow : OpenClaim := { program := "ytggglodhdbhggaa", sum := "46934912def2db6b1e70e0cf971688ea8ecb30cf87e8c867368164787c8003ca", func := "hachure/hachurelaw17.ProbeNil", spec := "probeNil", unfollowed := true, recurses := true, apart := false, narrowed := true }
def ProbeNilUptoSaid : Prop := probeNilUptoRow.holds Try.pinned (OpenSpec.upto probeNilSpec)

/-- 'hachurelaw18.DownNil', WHERE WHAT IT READS IS OF BULK AT MOST 1048576: true; the input reads as it did. -/
def downNilUptoRow : OpenClaim := { program := "ytggglodhdbhggaa", sum := "46934912def2db6b1e70e0cf971688ea8ecb30cf87e8c867368164787c8003ca", func := "hachure/hachurelaw18.DownNil", spec := "downNil", unfollowed := true, recurses := true, apart := false, narrowed := true }
def DownNilUptoSaid : Prop := downNilUptoRow.holds Try.pinned (OpenSpec.upto downNilSpec)

/-- 'hachurelaw19.FenNil', WHERE WHAT IT READS IS OF BULK AT MOST 1048576: true; the input reads as it did. -/
def fenNilUptoRow : OpenClaim := { program := "ytggglodhdbhggaa", sum := "46934912def2db6b1e70e0cf971688ea8ecb30cf87e8c867368164787c8003ca", func := "hachure/hachurelaw19.FenNil", spec := "fenNil", unfollowed := true, recurses := true, apart := false, narrowed := true }
def FenNilUptoSaid : Prop := fenNilUptoRow.holds Try.pinned (OpenSpec.upto fenNilSpec)

/-- 'hachurelaw20.AreaNil', WHERE WHAT IT READS IS OF BULK AT MOST 1048576: true; the input reads as it did. -/
def areaNilUptoRow : OpenClaim := { program := "ytggglodhdbhggaa", sum := "46934912def2db6b1e70e0cf971688ea8ecb30cf87e8c867368164787c8003ca", func := "hachure/hachurelaw20.AreaNil", spec := "areaNil", unfollowed := true, recurses := true, apart := false, narrowed := true }
def AreaNilUptoSaid : Prop := areaNilUptoRow.holds Try.pinned (OpenSpec.upto areaNilSpec)

/-- 'hachurelaw21.SparseNil', WHERE WHAT IT READS IS OF BULK AT MOST 1048576: true; the input reads as it did. -/
def sparseNilUptoRow : OpenClaim := { program := "ytggglodhdbhggaa", sum := "46934912def2db6b1e70e0cf971688ea8ecb30cf87e8c867368164787c8003ca", func := "hachure/hachurelaw21.SparseNil", spec := "sparseNil", unfollowed := true, recurses := true, apart := false, narrowed := true }
def SparseNilUptoSaid : Prop := sparseNilUptoRow.holds Try.pinned (OpenSpec.upto sparseNilSpec)

/-- 'hachurelaw27.ViewNil', WHERE WHAT IT READS IS OF BULK AT MOST 1048576: true; the input reads as it did. -/
def viewNilUptoRow : OpenClaim := { program := "ytggglodhdbhggaa", sum := "46934912def2db6b1e70e0cf971688ea8ecb30cf87e8c867368164787c8003ca", func := "hachure/hachurelaw27.ViewNil", spec := "viewNil", unfollowed := true, recurses := true, apart := false, narrowed := true }
def ViewNilUptoSaid : Prop := viewNilUptoRow.holds Try.pinned (OpenSpec.upto viewNilSpec)

end Rows
end Go.Proofs.Ytggglodhdbhggaa
