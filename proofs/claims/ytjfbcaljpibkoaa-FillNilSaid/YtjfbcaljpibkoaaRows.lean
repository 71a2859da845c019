/-
  No cell of these rows narrows 'for every input' (looked for: loops, veiled, ifaces, maps, wideKeys, modest, calm, conditions, laid).
  DERIVED. THE GIVEN ROWS OF THIS SEAT. 3 by the template 'for every input the law returns true; each argument reads behind the call as it read before'; 0 by the template 'total and deterministic' (their statements: YtjfbcaljpibkoaaTotals.lean).
  GIVEN WITH THE SEED: the statements are not yours to turn. If you find one false, say at which input.
  Laid BY PROGRAM, IN A SANDBOX (cutbox-rows.mjs): the forced cells as the released guide's own fill.sh prints them over the translation 0e7c9ef0cec3e221… (all of the seat's roots in one cut). By AI agents, Wed Nov 11 2026. No macro, syntax, notation, axiom, sorry.
-/
import Derived.Test.YtjfbcaljpibkoaaChecked
import GoSem.Claim
import GoSem.ClaimJoined
import GoSem.ClaimMapViews
import Derived.JoinedTies
import Derived.KernelRfl
namespace Go.Proofs.Ytjfbcaljpibkoaa
/- THE CELL 'sum', in the pinned program and in every row, IS THE sha256 OF THE DUMP (.gsa) THAT YtjfbcaljpibkoaaProg.lean LOADS. Nothing in Lean hashes anything: it is a label: what it is worth is what the hold of that sum in a sandbox is worth. -/
noncomputable def Try.pinned : Pinned := { name := "ytjfbcaljpibkoaa", sum := "0e7c9ef0cec3e22186b4e39a6ad1fa2d952becfdff4951a332f9e75375795886", checked := Try.checked }
namespace Rows
def none {H : Type} : Left H := { results := [], args := [] }

/-- 'hachurelaw45.FillNil': WHATEVER THE INPUT: true; the input reads as it did. -/
def fillNilSpec : ChangeSpec := { name := "fillNil", fn := fun _ => fun
  | [d] => { results := [.lit (.bool true)], args := [d] }
  | _ => none }
def fillNilRow : OpenClaim := { program := "ytjfbcaljpibkoaa", sum := "0e7c9ef0cec3e22186b4e39a6ad1fa2d952becfdff4951a332f9e75375795886", func := "hachure/hachurelaw45.FillNil", spec := "fillNil", unfollowed := true, recurses := true, plainKeys := false, apart := false }
def FillNilSaid : Prop := fillNilRow.holds Try.pinned (OpenSpec.ofChange fillNilSpec)

/-- ITS FALSE NEIGHBOUR: 'it returns false'. Refute it at one input. -/
def fillNilWrong : ChangeSpec := { name := "fillNil", fn := fun _ => fun
  | [d] => { results := [.lit (.bool false)], args := [d] }
  | _ => none }
def FillNilWrongFalsely : Prop := fillNilRow.holds Try.pinned (OpenSpec.ofChange fillNilWrong)

/-- 'hachurelaw46.PeaksNil': WHATEVER THE INPUT: true; the input reads as it did. -/
def peaksNilSpec : ChangeSpec := { name := "peaksNil", fn := fun _ => fun
  | [d1, d2] => { results := [.lit (.bool true)], args := [d1, d2] }
  | _ => none }
def peaksNilRow : OpenClaim := { program := "ytjfbcaljpibkoaa", sum := "0e7c9ef0cec3e22186b4e39a6ad1fa2d952becfdff4951a332f9e75375795886", func := "hachure/hachurelaw46.PeaksNil", spec := "peaksNil", unfollowed := true, recurses := true, plainKeys := false, apart := false }
def PeaksNilSaid : Prop := peaksNilRow.holds Try.pinned (OpenSpec.ofChange peaksNilSpec)

/-- ITS FALSE NEIGHBOUR: 'it returns false'. Refute it at one input. -/
def peaksNilWrong : ChangeSpec := { name := "peaksNil", fn := fun _ => fun
  | [d1, d2] => { results := [.lit (.bool false)], args := [d1, d2] }
  | _ => none }
def PeaksNilWrongFalsely : Prop := peaksNilRow.holds Try.pinned (OpenSpec.ofChange peaksNilWrong)

/-- 'hachurelaw49.ZonesNil': WHATEVER THE INPUT: true; the input reads as it did. -/
def zonesNilSpec : ChangeSpec := { name := "zonesNil", fn := fun _ => fun
  | [d1, d2, d3] => { results := [.lit (.bool true)], args := [d1, d2, d3] }
  | _ => none }
def zonesNilRow : OpenClaim := { program := "ytjfbcaljpibkoaa", sum := "0e7c9ef0cec3e22186b4e39a6ad1fa2d952becfdff4951a332f9e75375795886", func := "hachure/hachurelaw49.ZonesNil", spec := "zonesNil", unfollowed := true, recurses := true, plainKeys := false, apart := false }
def ZonesNilSaid : Prop := zonesNilRow.holds Try.pinned (OpenSpec.ofChange zonesNilSpec)

/-- ITS FALSE NEIGHBOUR: 'it returns false'. Refute it at one input. -/
def zonesNilWrong : ChangeSpec := { name := "zonesNil", fn := fun _ => fun
  | [d1, d2, d3] => { results := [.lit (.bool false)], args := [d1, d2, d3] }
  | _ => none }
def ZonesNilWrongFalsely : Prop := zonesNilRow.holds Try.pinned (OpenSpec.ofChange zonesNilWrong)

/- THE SECOND FORM. 'bulk': how many values and letters a reading holds, each counted each time it is reached (what is shared counts as often as it is met; a slice's spare places count too). A statement '..UptoSaid' is the law's where the arguments, and the package variables that the reading takes, are together of bulk at most 1048576: NARROWER than '..Said'. Prove '..Said' where nothing that the law and all that it calls make is longer than what came in: it says more and counts as full. Else prove '..UptoSaid'. A law counts once. -/
mutual
def uptoBulk {H : Type} : DataW H → Nat
  | .lit (.string bytes) => bytes.length + 1
  | .lit _ => 1
  | .nil => 1
  | .ptr d => uptoBulk d + 1
  | .slice elems spare => uptoBulkAll elems + uptoBulkAll spare + 1
  | .agg parts => uptoBulkAll parts + 1
  | .iface _ d => uptoBulk d + 1
  | .map entries => uptoBulkEntries entries + 1
  | .held _ => 1
def uptoBulkAll {H : Type} : List (DataW H) → Nat
  | [] => 0
  | d :: r => uptoBulk d + uptoBulkAll r
def uptoBulkEntries {H : Type} : List (Lit × DataW H) → Nat
  | [] => 0
  | x :: r => uptoBulkEntry x + uptoBulkEntries r
def uptoBulkEntry {H : Type} : Lit × DataW H → Nat
  | (.string bytes, d) => bytes.length + uptoBulk d + 1
  | (_, d) => uptoBulk d + 1
 end
def uptoSmall : (H : Type) → List (DataW H) → Bool := fun _ ds => decide (uptoBulkAll ds ≤ 1048576)
def OpenSpec.upto (s : _root_.Go.ChangeSpec) : _root_.Go.OpenSpec := { _root_.Go.OpenSpec.ofChange s with cond := some uptoSmall }

/-- 'hachurelaw45.FillNil', WHERE WHAT IT READS IS OF BULK AT MOST 1048576: true; the input reads as it did. -/
def fillNilUptoRow : OpenClaim := { program := "ytjfbcaljpibkoaa", sum := "0e7c9ef0cec3e22186b4e39a6ad1fa2d952becfdff4951a332f9e75375795886", func := "hachure/hachurelaw45.FillNil", spec := "fillNil", unfollowed := true, recurses := true, plainKeys := false, apart := false, narrowed := true }
def FillNilUptoSaid : Prop := fillNilUptoRow.holds Try.pinned (OpenSpec.upto fillNilSpec)

/-- 'hachurelaw46.PeaksNil', WHERE WHAT IT READS IS OF BULK AT MOST 1048576: true; the input reads as it did. -/
def peaksNilUptoRow : OpenClaim := { program := "ytjfbcaljpibkoaa", sum := "0e7c9ef0cec3e22186b4e39a6ad1fa2d952becfdff4951a332f9e75375795886", func := "hachure/hachurelaw46.PeaksNil", spec := "peaksNil", unfollowed := true, recurses := true, plainKeys := false, apart := false, narrowed := true }
def PeaksNilUptoSaid : Prop := peaksNilUptoRow.holds Try.pinned (OpenSpec.upto peaksNilSpec)

/-- 'hachurelaw49.ZonesNil', WHERE WHAT IT READS IS OF BULK AT MOST 1048576: true; the input reads as it did. -/
def zonesNilUptoRow : OpenClaim := { program := "ytjfbcaljpibkoaa", sum := "0e7c9ef0cec3e22186b4e39a6ad1fa2d952becfdff4951a332f9e75375795886", func := "hachure/hachurelaw49.ZonesNil", spec := "zonesNil", unfollowed := true, recurses := true, plainKeys := false, apart := false, narrowed := true }
def ZonesNilUptoSaid : Prop := zonesNilUptoRow.holds Try.pinned (OpenSpec.upto zonesNilSpec)

end Rows
end Go.Proofs.Ytjfbcaljpibkoaa
