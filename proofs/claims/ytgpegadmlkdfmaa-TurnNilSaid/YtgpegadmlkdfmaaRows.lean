/-
  No cell of these rows narrows 'for every input' (looked for: loops, veiled, ifaces, maps, wideKeys, modest, calm, conditions, laid).
  DERIVED. THE GIVEN ROWS OF THIS SEAT. 7 by the template 'for every input the law returns true; each argument reads behind the call as it read before'; 0 by the template 'total and deterministic' (their statements: YtgpegadmlkdfmaaTotals.lean).
  GIVEN WITH THE SEED: the statements are not yours to turn. If you find one false, say at which input.
  Laid BY PROGRAM, IN A SANDBOX (cutbox-rows.mjs): the forced cells as the released guide's own fill.sh prints them over the translation a2ee352feb1363df… (all of the seat's roots in one cut). By AI agents, Wed Nov 11 2026. No macro, syntax, notation, axiom, sorry.
-/
import Derived.Test.YtgpegadmlkdfmaaChecked
import GoSem.Claim
import GoSem.ClaimJoined
import GoSem.ClaimMapViews
import Derived.JoinedTies
import Derived.KernelRfl
namespace Go.Proofs.Ytgpegadmlkdfmaa
/- THE CELL 'sum', in the pinned program and in every row, IS THE sha256 OF THE DUMP (.gsa) THAT YtgpegadmlkdfmaaProg.lean LOADS. Nothing in Lean hashes anything: it is a label: what it is worth is what the hold of that sum in a sandbox is worth. -/
noncomputable def Try.pinned : Pinned := { name := "ytgpegadmlkdfmaa", sum := "a2ee352feb1363dff97fc887a02662ddf18e0411280659adc0480659a5829fcb", checked := Try.checked }
namespace Rows
def none {H : Type} : Left H := { results := [], args := [] }

/-- 'hachurelaw29.RegionsNil': WHATEVER THE INPUT: true; the input reads as it did. -/
def regionsNilSpec : ChangeSpec := { name := "regionsNil", fn := fun _ => fun
  | [d1, d2] => { results := [.lit (.bool true)], args := [d1, d2] }
  | _ => none }
def regionsNilRow : OpenClaim := { program := "ytgpegadmlkdfmaa", sum := "a2ee352feb1363dff97fc887a02662ddf18e0411280659adc0480659a5829fcb", func := "hachure/hachurelaw29.RegionsNil", spec := "regionsNil", unfollowed := true, recurses := true, apart := false }
def RegionsNilSaid : Prop := regionsNilRow.holds Try.pinned (OpenSpec.ofChange regionsNilSpec)

/-- ITS FALSE NEIGHBOUR: 'it returns false'. Refute it at one input. -/
def regionsNilWrong : ChangeSpec := { name := "regionsNil", fn := fun _ => fun
  | [d1, d2] => { results := [.lit (.bool false)], args := [d1, d2] }
  | _ => none }
def RegionsNilWrongFalsely : Prop := regionsNilRow.holds Try.pinned (OpenSpec.ofChange regionsNilWrong)

/-- 'hachurelaw31.SinkNil': WHATEVER THE INPUT: true; the input reads as it did. -/
def sinkNilSpec : ChangeSpec := { name := "sinkNil", fn := fun _ => fun
  | [d] => { results := [.lit (.bool true)], args := [d] }
  | _ => none }
def sinkNilRow : OpenClaim := { program := "ytgpegadmlkdfmaa", sum := "a2ee352feb1363dff97fc887a02662ddf18e0411280659adc0480659a5829fcb", func := "hachure/hachurelaw31.SinkNil", spec := "sinkNil", unfollowed := true, recurses := true, apart := false }
def SinkNilSaid : Prop := sinkNilRow.holds Try.pinned (OpenSpec.ofChange sinkNilSpec)

/-- ITS FALSE NEIGHBOUR: 'it returns false'. Refute it at one input. -/
def sinkNilWrong : ChangeSpec := { name := "sinkNil", fn := fun _ => fun
  | [d] => { results := [.lit (.bool false)], args := [d] }
  | _ => none }
def SinkNilWrongFalsely : Prop := sinkNilRow.holds Try.pinned (OpenSpec.ofChange sinkNilWrong)

/-- 'hachurelaw32.RouteNil': WHATEVER THE INPUT: true; the input reads as it did. -/
def routeNilSpec : ChangeSpec := { name := "routeNil", fn := fun _ => fun
  | [d1, d2, d3] => { results := [.lit (.bool true)], args := [d1, d2, d3] }
  | _ => none }
def routeNilRow : OpenClaim := { program := "ytgpegadmlkdfmaa", sum := "a2ee352feb1363dff97fc887a02662ddf18e0411280659adc0480659a5829fcb", func := "hachure/hachurelaw32.RouteNil", spec := "routeNil", unfollowed := true, recurses := true, apart := false }
def RouteNilSaid : Prop := routeNilRow.holds Try.pinned (OpenSpec.ofChange routeNilSpec)

/-- ITS FALSE NEIGHBOUR: 'it returns false'. Refute it at one input. -/
def routeNilWrong : ChangeSpec := { name := "routeNil", fn := fun _ => fun
  | [d1, d2, d3] => { results := [.lit (.bool false)], args := [d1, d2, d3] }
  | _ => none }
def RouteNilWrongFalsely : Prop := routeNilRow.holds Try.pinned (OpenSpec.ofChange routeNilWrong)

/-- 'hachurelaw35.PastNil': WHATEVER THE INPUT: true; the input reads as it did. -/
def pastNilSpec : ChangeSpec := { name := "pastNil", fn := fun _ => fun
  | [d] => { results := [.lit (.bool true)], args := [d] }
  | _ => none }
def pastNilRow : OpenClaim := { program := "ytgpegadmlkdfmaa", sum := "a2ee352feb1363dff97fc887a02662ddf18e0411280659adc0480659a5829fcb", func := "hachure/hachurelaw35.PastNil", spec := "pastNil", unfollowed := true, recurses := true, apart := false }
def PastNilSaid : Prop := pastNilRow.holds Try.pinned (OpenSpec.ofChange pastNilSpec)

/-- ITS FALSE NEIGHBOUR: 'it returns false'. Refute it at one input. -/
def pastNilWrong : ChangeSpec := { name := "pastNil", fn := fun _ => fun
  | [d] => { results := [.lit (.bool false)], args := [d] }
  | _ => none }
def PastNilWrongFalsely : Prop := pastNilRow.holds Try.pinned (OpenSpec.ofChange pastNilWrong)

/-- 'hachurelaw39.DiskNil': WHATEVER THE INPUT: true; the input reads as it did. -/
def diskNilSpec : ChangeSpec := { name := "diskNil", fn := fun _ => fun
  | [d] => { results := [.lit (.bool true)], args := [d] }
  | _ => none }
def diskNilRow : OpenClaim := { program := "ytgpegadmlkdfmaa", sum := "a2ee352feb1363dff97fc887a02662ddf18e0411280659adc0480659a5829fcb", func := "hachure/hachurelaw39.DiskNil", spec := "diskNil", unfollowed := true, recurses := true, apart := false }
def DiskNilSaid : Prop := diskNilRow.holds Try.pinned (OpenSpec.ofChange diskNilSpec)

/-- ITS FALSE NEIGHBOUR: 'it returns false'. Refute it at one input. -/
def diskNilWrong : ChangeSpec := { name := "diskNil", fn := fun _ => fun
  | [d] => { results := [.lit (.bool false)], args := [d] }
  | _ => none }
def DiskNilWrongFalsely : Prop := diskNilRow.holds Try.pinned (OpenSpec.ofChange diskNilWrong)

/-- 'hachurelaw42.TurnNil': WHATEVER THE INPUT: true; the input reads as it did. -/
def turnNilSpec : ChangeSpec := { name := "turnNil", fn := fun _ => fun
  | [d1, d2, d3] => { results := [.lit (.bool true)], args := [d1, d2, d3] }
  | _ => none }
def turnNilRow : OpenClaim := { program := "ytgpegadmlkdfmaa", sum := "a2ee352feb1363dff97fc887a02662ddf18e0411280659adc0480659a5829fcb", func := "hachure/hachurelaw42.TurnNil", spec := "turnNil", unfollowed := true, recurses := true, apart := false }
def TurnNilSaid : Prop := turnNilRow.holds Try.pinned (OpenSpec.ofChange turnNilSpec)

/-- ITS FALSE NEIGHBOUR: 'it returns false'. Refute it at one input. -/
def turnNilWrong : ChangeSpec := { name := "turnNil", fn := fun _ => fun
  | [d1, d2, d3] => { results := [.lit (.bool false)], args := [d1, d2, d3] }
  | _ => none }
def TurnNilWrongFalsely : Prop := turnNilRow.holds Try.pinned (OpenSpec.ofChange turnNilWrong)

/-- 'hachurelaw43.DistNil': WHATEVER THE INPUT: true; the input reads as it did. -/
def distNilSpec : ChangeSpec := { name := "distNil", fn := fun _ => fun
  | [d1, d2, d3] => { results := [.lit (.bool true)], args := [d1, d2, d3] }
  | _ => none }
def distNilRow : OpenClaim := { program := "ytgpegadmlkdfmaa", sum := "a2ee352feb1363dff97fc887a02662ddf18e0411280659adc0480659a5829fcb", func := "hachure/hachurelaw43.DistNil", spec := "distNil", unfollowed := true, recurses := true, apart := false }
def DistNilSaid : Prop := distNilRow.holds Try.pinned (OpenSpec.ofChange distNilSpec)

/-- ITS FALSE NEIGHBOUR: 'it returns false'. Refute it at one input. -/
def distNilWrong : ChangeSpec := { name := "distNil", fn := fun _ => fun
  | [d1, d2, d3] => { results := [.lit (.bool false)], args := [d1, d2, d3] }
  | _ => none }
def DistNilWrongFalsely : Prop := distNilRow.holds Try.pinned (OpenSpec.ofChange distNilWrong)

/- THE SECOND FORM. 'bulk': how many values and letters a reading holds, each counted each time it is reached (what is shared counts as often as it is met; a slice's spare places count too). A statement '..UptoSaid' is the law's where the arguments, and the package variables that the reading takes, are together of bulk at most 1048576: NARROWER than '..Said'. Prove '..Said' where nothing that the law and all that it calls make is longer than what came in: it says more and counts as full. Else prove '..UptoSaid'. A law counts once. -/
mutual
def uptoBulk {H : Type} : DataW H → Nat
  | .lit (.string bytes) => bytes.length + 1
  | .lit _ => 1
  | .nil => 1
  | .ptr d => uptoBulk d + 1
  | .slice elems spare => uptoBulkAll elems + uptoBulkAll spare + 1
  | .agg parts => uptoBulkAll parts + 1
  | .iface _ d => uptoBulk d + 1
  | .map entries => uptoBulkEntries entries + 1
  | .held _ => 1
def uptoBulkAll {H : Type} : List (DataW H) → Nat
  | [] => 0
  | d :: r => uptoBulk d + uptoBulkAll r
def uptoBulkEntries {H : Type} : List (Lit × DataW H) → Nat
  | [] => 0
  | x :: r => uptoBulkEntry x + uptoBulkEntries r
def uptoBulkEntry {H : Type} : Lit × DataW H → Nat
  | (.string bytes, d) => bytes.length + uptoBulk d + 1
  | (_, d) => uptoBulk d + 1
 end
def uptoSmall : (H : Type) → List (DataW H) → Bool := fun _ ds => decide (uptoBulkAll ds ≤ 1048576)
def OpenSpec.upto (s : _root_.Go.ChangeSpec) : _root_.Go.OpenSpec := { _root_.Go.OpenSpec.ofChange s with cond := some uptoSmall }

/-- 'hachurelaw29.RegionsNil', WHERE WHAT IT READS IS OF BULK AT MOST 1048576: true; the input reads as it did. -/
def regionsNilUptoRow : OpenClaim := { program := "ytgpegadmlkdfmaa", sum := "a2ee352feb1363dff97fc887a02662ddf18e0411280659adc0480659a5829fcb", func := "hachure/hachurelaw29.RegionsNil", spec := "regionsNil", unfollowed := true, recurses := true, apart := false, narrowed := true }
def RegionsNilUptoSaid : Prop := regionsNilUptoRow.holds Try.pinned (OpenSpec.upto regionsNilSpec)

/-- 'hachurelaw31.SinkNil', WHERE WHAT IT READS IS OF BULK AT MOST 1048576: true; the input reads as it did. -/
def sinkNilUptoRow : OpenClaim := { program := "ytgpegadmlkdfmaa", sum := "a2ee352feb1363dff97fc887a02662ddf18e0411280659adc0480659a5829fcb", func := "hachure/hachurelaw31.SinkNil", spec := "sinkNil", unfollowed := true, recurses := true, apart := false, narrowed := true }
def SinkNilUptoSaid : Prop := sinkNilUptoRow.holds Try.pinned (OpenSpec.upto sinkNilSpec)

/-- 'hachurelaw32.RouteNil', WHERE WHAT IT READS IS OF BULK AT MOST 1048576: true; the input reads as it did. -/
def routeNilUptoRow : OpenClaim := { program := "ytgpegadmlkdfmaa", sum := "a2ee352feb1363dff97fc887a02662ddf18e0411280659adc0480659a5829fcb", func := "hachure/hachurelaw32.RouteNil", spec := "routeNil", unfollowed := true, recurses := true, apart := false, narrowed := true }
def RouteNilUptoSaid : Prop := routeNilUptoRow.holds Try.pinned (OpenSpec.upto routeNilSpec)

/-- 'hachurelaw35.PastNil', WHERE WHAT IT READS IS OF BULK AT MOST 1048576: true; the input reads as it did. -/
def pastNilUptoRow : OpenClaim := { program := "ytgpegadmlkdfmaa", sum := "a2ee352feb1363dff97fc887a02662ddf18e0411280659adc0480659a5829fcb", func := "hachure/hachurelaw35.PastNil", spec := "pastNil", unfollowed := true, recurses := true, apart := false, narrowed := true }
def PastNilUptoSaid : Prop := pastNilUptoRow.holds Try.pinned (OpenSpec.upto pastNilSpec)

/-- 'hachurelaw39.DiskNil', WHERE WHAT IT READS IS OF BULK AT MOST 1048576: true; the input reads as it did. -/
def diskNilUptoRow : OpenClaim := { program := "ytgpegadmlkdfmaa", sum := "a2ee352feb1363dff97fc887a02662ddf18e0411280659adc0480659a5829fcb", func := "hachure/hachurelaw39.DiskNil", spec := "diskNil", unfollowed := true, recurses := true, apart := false, narrowed := true }
def DiskNilUptoSaid : Prop := diskNilUptoRow.holds Try.pinned (OpenSpec.upto diskNilSpec)

/-- 'hachurelaw42.TurnNil', WHERE WHAT IT READS IS OF BULK AT MOST 1048576: true; the input reads as it did. -/
def turnNilUptoRow : OpenClaim := { program := "ytgpegadmlkdfmaa", sum := "a2ee352feb1363dff97fc887a02662ddf18e0411280659adc0480659a5829fcb", func := "hachure/hachurelaw42.TurnNil", spec := "turnNil", unfollowed := true, recurses := true, apart := false, narrowed := true }
def TurnNilUptoSaid : Prop := turnNilUptoRow.holds Try.pinned (OpenSpec.upto turnNilSpec)

/-- 'hachurelaw43.DistNil', WHERE WHAT IT READS IS OF BULK AT MOST 1048576: true; the input reads as it did. -/
def distNilUptoRow : OpenClaim := { program := "ytgpegadmlkdfmaa", sum := "a2ee352feb1363dff97fc887a02662ddf18e0411280659adc0480659a5829fcb", func := "hachure/hachurelaw43.DistNil", spec := "distNil", unfollowed := true, recurses := true, apart := false, narrowed := true }
def DistNilUptoSaid : Prop := distNilUptoRow.holds Try.pinned (OpenSpec.upto distNilSpec)

end Rows
end Go.Proofs.Ytgpegadmlkdfmaa
