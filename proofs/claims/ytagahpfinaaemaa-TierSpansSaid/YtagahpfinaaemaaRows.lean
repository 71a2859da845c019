/-
  No cell of these rows narrows 'for every input' (looked for: loops, veiled, ifaces, maps, wideKeys, modest, calm, conditions, laid).
  DERIVED. THE GIVEN ROWS OF THIS SEAT. 8 by the template 'for every input the law returns true; each argument reads behind the call as it read before'; 0 by the template 'total and deterministic' (their statements: YtagahpfinaaemaaTotals.lean).
  GIVEN WITH THE SEED: the statements are not yours to turn. If you find one false, say at which input.
  Laid BY PROGRAM, IN A SANDBOX (cutbox-rows.mjs): the forced cells as the released guide's own fill.sh prints them over the translation 934c9015d52e1e00… (all of the seat's roots in one cut). By AI agents, Wed Nov 11 2026. No macro, syntax, notation, axiom, sorry.
-/
import Derived.Test.YtagahpfinaaemaaChecked
import GoSem.Claim
import GoSem.ClaimJoined
import GoSem.ClaimMapViews
import Derived.JoinedTies
import Derived.KernelRfl
namespace Go.Proofs.Ytagahpfinaaemaa
/- THE CELL 'sum', in the pinned program and in every row, IS THE sha256 OF THE DUMP (.gsa) THAT YtagahpfinaaemaaProg.lean LOADS. Nothing in Lean hashes anything: it is a label: what it is worth is what the hold of that sum in a sandbox is worth. -/
noncomputable def Try.pinned : Pinned := { name := "ytagahpfinaaemaa", sum := "934c9015d52e1e0040d4f53d986a092ebea761a25437aa644f45c1d530af40e3", checked := Try.checked }
namespace Rows
def none {H : Type} : Left H := { results := [], args := [] }

/-- 'hachurelaw07.RectAsks': WHATEVER THE INPUT: true; the input reads as it did. -/
def rectAsksSpec : ChangeSpec := { name := "rectAsks", fn := fun _ => fun
  | [d1, d2, d3, d4] => { results := [.lit (.bool true)], args := [d1, d2, d3, d4] }
  | _ => none }
def rectAsksRow : OpenClaim := { program := "ytagahpfinaaemaa", sum := "934c9015d52e1e0040d4f53d986a092ebea761a25437aa644f45c1d530af40e3", func := "hachure/hachurelaw07.RectAsks", spec := "rectAsks", apart := false }
def RectAsksSaid : Prop := rectAsksRow.holds Try.pinned (OpenSpec.ofChange rectAsksSpec)

/-- ITS FALSE NEIGHBOUR: 'it returns false'. Refute it at one input. -/
def rectAsksWrong : ChangeSpec := { name := "rectAsks", fn := fun _ => fun
  | [d1, d2, d3, d4] => { results := [.lit (.bool false)], args := [d1, d2, d3, d4] }
  | _ => none }
def RectAsksWrongFalsely : Prop := rectAsksRow.holds Try.pinned (OpenSpec.ofChange rectAsksWrong)

/-- 'hachurelaw07.RectJoins': WHATEVER THE INPUT: true; the input reads as it did. -/
def rectJoinsSpec : ChangeSpec := { name := "rectJoins", fn := fun _ => fun
  | [d1, d2, d3] => { results := [.lit (.bool true)], args := [d1, d2, d3] }
  | _ => none }
def rectJoinsRow : OpenClaim := { program := "ytagahpfinaaemaa", sum := "934c9015d52e1e0040d4f53d986a092ebea761a25437aa644f45c1d530af40e3", func := "hachure/hachurelaw07.RectJoins", spec := "rectJoins", apart := false }
def RectJoinsSaid : Prop := rectJoinsRow.holds Try.pinned (OpenSpec.ofChange rectJoinsSpec)

/-- ITS FALSE NEIGHBOUR: 'it returns false'. Refute it at one input. -/
def rectJoinsWrong : ChangeSpec := { name := "rectJoins", fn := fun _ => fun
  | [d1, d2, d3] => { results := [.lit (.bool false)], args := [d1, d2, d3] }
  | _ => none }
def RectJoinsWrongFalsely : Prop := rectJoinsRow.holds Try.pinned (OpenSpec.ofChange rectJoinsWrong)

/-- 'hachurelaw07.RectAround': WHATEVER THE INPUT: true; the input reads as it did. -/
def rectAroundSpec : ChangeSpec := { name := "rectAround", fn := fun _ => fun
  | [d1, d2, d3, d4, d5] => { results := [.lit (.bool true)], args := [d1, d2, d3, d4, d5] }
  | _ => none }
def rectAroundRow : OpenClaim := { program := "ytagahpfinaaemaa", sum := "934c9015d52e1e0040d4f53d986a092ebea761a25437aa644f45c1d530af40e3", func := "hachure/hachurelaw07.RectAround", spec := "rectAround", apart := false }
def RectAroundSaid : Prop := rectAroundRow.holds Try.pinned (OpenSpec.ofChange rectAroundSpec)

/-- ITS FALSE NEIGHBOUR: 'it returns false'. Refute it at one input. -/
def rectAroundWrong : ChangeSpec := { name := "rectAround", fn := fun _ => fun
  | [d1, d2, d3, d4, d5] => { results := [.lit (.bool false)], args := [d1, d2, d3, d4, d5] }
  | _ => none }
def RectAroundWrongFalsely : Prop := rectAroundRow.holds Try.pinned (OpenSpec.ofChange rectAroundWrong)

/-- 'hachurelaw07.RectPieces': WHATEVER THE INPUT: true; the input reads as it did. -/
def rectPiecesSpec : ChangeSpec := { name := "rectPieces", fn := fun _ => fun
  | [d1, d2] => { results := [.lit (.bool true)], args := [d1, d2] }
  | _ => none }
def rectPiecesRow : OpenClaim := { program := "ytagahpfinaaemaa", sum := "934c9015d52e1e0040d4f53d986a092ebea761a25437aa644f45c1d530af40e3", func := "hachure/hachurelaw07.RectPieces", spec := "rectPieces", apart := false }
def RectPiecesSaid : Prop := rectPiecesRow.holds Try.pinned (OpenSpec.ofChange rectPiecesSpec)

/-- ITS FALSE NEIGHBOUR: 'it returns false'. Refute it at one input. -/
def rectPiecesWrong : ChangeSpec := { name := "rectPieces", fn := fun _ => fun
  | [d1, d2] => { results := [.lit (.bool false)], args := [d1, d2] }
  | _ => none }
def RectPiecesWrongFalsely : Prop := rectPiecesRow.holds Try.pinned (OpenSpec.ofChange rectPiecesWrong)

/-- 'hachurelaw07.RectRows': WHATEVER THE INPUT: true; the input reads as it did. -/
def rectRowsSpec : ChangeSpec := { name := "rectRows", fn := fun _ => fun
  | [d1, d2, d3] => { results := [.lit (.bool true)], args := [d1, d2, d3] }
  | _ => none }
def rectRowsRow : OpenClaim := { program := "ytagahpfinaaemaa", sum := "934c9015d52e1e0040d4f53d986a092ebea761a25437aa644f45c1d530af40e3", func := "hachure/hachurelaw07.RectRows", spec := "rectRows", apart := false }
def RectRowsSaid : Prop := rectRowsRow.holds Try.pinned (OpenSpec.ofChange rectRowsSpec)

/-- ITS FALSE NEIGHBOUR: 'it returns false'. Refute it at one input. -/
def rectRowsWrong : ChangeSpec := { name := "rectRows", fn := fun _ => fun
  | [d1, d2, d3] => { results := [.lit (.bool false)], args := [d1, d2, d3] }
  | _ => none }
def RectRowsWrongFalsely : Prop := rectRowsRow.holds Try.pinned (OpenSpec.ofChange rectRowsWrong)

/-- 'hachurelaw15.TierSizes': WHATEVER THE INPUT: true; the input reads as it did. -/
def tierSizesSpec : ChangeSpec := { name := "tierSizes", fn := fun _ => fun
  | [d1, d2, d3] => { results := [.lit (.bool true)], args := [d1, d2, d3] }
  | _ => none }
def tierSizesRow : OpenClaim := { program := "ytagahpfinaaemaa", sum := "934c9015d52e1e0040d4f53d986a092ebea761a25437aa644f45c1d530af40e3", func := "hachure/hachurelaw15.TierSizes", spec := "tierSizes", apart := false }
def TierSizesSaid : Prop := tierSizesRow.holds Try.pinned (OpenSpec.ofChange tierSizesSpec)

/-- ITS FALSE NEIGHBOUR: 'it returns false'. Refute it at one input. -/
def tierSizesWrong : ChangeSpec := { name := "tierSizes", fn := fun _ => fun
  | [d1, d2, d3] => { results := [.lit (.bool false)], args := [d1, d2, d3] }
  | _ => none }
def TierSizesWrongFalsely : Prop := tierSizesRow.holds Try.pinned (OpenSpec.ofChange tierSizesWrong)

/-- 'hachurelaw15.TierSpans': WHATEVER THE INPUT: true; the input reads as it did. -/
def tierSpansSpec : ChangeSpec := { name := "tierSpans", fn := fun _ => fun
  | [d1, d2, d3, d4, d5] => { results := [.lit (.bool true)], args := [d1, d2, d3, d4, d5] }
  | _ => none }
def tierSpansRow : OpenClaim := { program := "ytagahpfinaaemaa", sum := "934c9015d52e1e0040d4f53d986a092ebea761a25437aa644f45c1d530af40e3", func := "hachure/hachurelaw15.TierSpans", spec := "tierSpans", apart := false }
def TierSpansSaid : Prop := tierSpansRow.holds Try.pinned (OpenSpec.ofChange tierSpansSpec)

/-- ITS FALSE NEIGHBOUR: 'it returns false'. Refute it at one input. -/
def tierSpansWrong : ChangeSpec := { name := "tierSpans", fn := fun _ => fun
  | [d1, d2, d3, d4, d5] => { results := [.lit (.bool false)], args := [d1, d2, d3, d4, d5] }
  | _ => none }
def TierSpansWrongFalsely : Prop := tierSpansRow.holds Try.pinned (OpenSpec.ofChange tierSpansWrong)

/-- 'hachurelaw15.TierKids': WHATEVER THE INPUT: true; the input reads as it did. -/
def tierKidsSpec : ChangeSpec := { name := "tierKids", fn := fun _ => fun
  | [d1, d2, d3, d4] => { results := [.lit (.bool true)], args := [d1, d2, d3, d4] }
  | _ => none }
def tierKidsRow : OpenClaim := { program := "ytagahpfinaaemaa", sum := "934c9015d52e1e0040d4f53d986a092ebea761a25437aa644f45c1d530af40e3", func := "hachure/hachurelaw15.TierKids", spec := "tierKids", apart := false }
def TierKidsSaid : Prop := tierKidsRow.holds Try.pinned (OpenSpec.ofChange tierKidsSpec)

/-- ITS FALSE NEIGHBOUR: 'it returns false'. Refute it at one input. -/
def tierKidsWrong : ChangeSpec := { name := "tierKids", fn := fun _ => fun
  | [d1, d2, d3, d4] => { results := [.lit (.bool false)], args := [d1, d2, d3, d4] }
  | _ => none }
def TierKidsWrongFalsely : Prop := tierKidsRow.holds Try.pinned (OpenSpec.ofChange tierKidsWrong)

/- THE SECOND FORM. 'bulk': how many values and letters a reading holds, each counted each time it is reached (what is shared counts as often as it is met; a slice's spare places count too). A statement '..UptoSaid' is the law's where the arguments, and the package variables that the reading takes, are together of bulk at most 1048576: NARROWER than '..Said'. Prove '..Said' where nothing that the law and all that it calls make is longer than what came in: it says more and counts as full. Else prove '..UptoSaid'. A law counts once. -/
mutual
def uptoBulk {H : Type} : DataW H → Nat
  | .lit (.string bytes) => bytes.length + 1
  | .lit _ => 1
  | .nil => 1
  | .ptr d => uptoBulk d + 1
  | .slice elems spare => uptoBulkAll elems + uptoBulkAll spare + 1
  | .agg parts => uptoBulkAll parts + 1
  | .iface _ d => uptoBulk d + 1
  | .map entries => uptoBulkEntries entries + 1
  | .held _ => 1
def uptoBulkAll {H : Type} : List (DataW H) → Nat
  | [] => 0
  | d :: r => uptoBulk d + uptoBulkAll r
def uptoBulkEntries {H : Type} : List (Lit × DataW H) → Nat
  | [] => 0
  | x :: r => uptoBulkEntry x + uptoBulkEntries r
def uptoBulkEntry {H : Type} : Lit × DataW H → Nat
  | (.string bytes, d) => bytes.length + uptoBulk d + 1
  | (_, d) => uptoBulk d + 1
 end
def uptoSmall : (H : Type) → List (DataW H) → Bool := fun _ ds => decide (uptoBulkAll ds ≤ 1048576)
def OpenSpec.upto (s : _root_.Go.ChangeSpec) : _root_.Go.OpenSpec := { _root_.Go.OpenSpec.ofChange s with cond := some uptoSmall }

/-- 'hachurelaw07.RectAsks', WHERE WHAT IT READS IS OF BULK AT MOST 1048576: true; the input reads as it did. -/
def rectAsksUptoRow : OpenClaim := { program := "ytagahpfinaaemaa", sum := "934c9015d52e1e0040d4f53d986a092ebea761a25437aa644f45c1d530af40e3", func := "hachure/hachurelaw07.RectAsks", spec := "rectAsks", apart := false, narrowed := true }
def RectAsksUptoSaid : Prop := rectAsksUptoRow.holds Try.pinned (OpenSpec.upto rectAsksSpec)

/-- 'hachurelaw07.RectJoins', WHERE WHAT IT READS IS OF BULK AT MOST 1048576: true; the input reads as it did. -/
def rectJoinsUptoRow : OpenClaim := { program := "ytagahpfinaaemaa", sum := "934c9015d52e1e0040d4f53d986a092ebea761a25437aa644f45c1d530af40e3", func := "hachure/hachurelaw07.RectJoins", spec := "rectJoins", apart := false, narrowed := true }
def RectJoinsUptoSaid : Prop := rectJoinsUptoRow.holds Try.pinned (OpenSpec.upto rectJoinsSpec)

/-- 'hachurelaw07.RectAround', WHERE WHAT IT READS IS OF BULK AT MOST 1048576: true; the input reads as it did. -/
def rectAroundUptoRow : OpenClaim := { program := "ytagahpfinaaemaa", sum := "934c9015d52e1e0040d4f53d986a092ebea761a25437aa644f45c1d530af40e3", func := "hachure/hachurelaw07.RectAround", spec := "rectAround", apart := false, narrowed := true }
def RectAroundUptoSaid : Prop := rectAroundUptoRow.holds Try.pinned (OpenSpec.upto rectAroundSpec)

/-- 'hachurelaw07.RectPieces', WHERE WHAT IT READS IS OF BULK AT MOST 1048576: true; the input reads as it did. -/
def rectPiecesUptoRow : OpenClaim := { program := "ytagahpfinaaemaa", sum := "934c9015d52e1e0040d4f53d986a092ebea761a25437aa644f45c1d530af40e3", func := "hachure/hachurelaw07.RectPieces", spec := "rectPieces", apart := false, narrowed := true }
def RectPiecesUptoSaid : Prop := rectPiecesUptoRow.holds Try.pinned (OpenSpec.upto rectPiecesSpec)

/-- 'hachurelaw07.RectRows', WHERE WHAT IT READS IS OF BULK AT MOST 1048576: true; the input reads as it did. -/
def rectRowsUptoRow : OpenClaim := { program := "ytagahpfinaaemaa", sum := "934c9015d52e1e0040d4f53d986a092ebea761a25437aa644f45c1d530af40e3", func := "hachure/hachurelaw07.RectRows", spec := "rectRows", apart := false, narrowed := true }
def RectRowsUptoSaid : Prop := rectRowsUptoRow.holds Try.pinned (OpenSpec.upto rectRowsSpec)

/-- 'hachurelaw15.TierSizes', WHERE WHAT IT READS IS OF BULK AT MOST 1048576: true; the input reads as it did. -/
def tierSizesUptoRow : OpenClaim := { program := "ytagahpfinaaemaa", sum := "934c9015d52e1e0040d4f53d986a092ebea761a25437aa644f45c1d530af40e3", func := "hachure/hachurelaw15.TierSizes", spec := "tierSizes", apart := false, narrowed := true }
def TierSizesUptoSaid : Prop := tierSizesUptoRow.holds Try.pinned (OpenSpec.upto tierSizesSpec)

/-- 'hachurelaw15.TierSpans', WHERE WHAT IT READS IS OF BULK AT MOST 1048576: true; the input reads as it did. -/
def tierSpansUptoRow : OpenClaim := { program := "ytagahpfinaaemaa", sum := "934c9015d52e1e0040d4f53d986a092ebea761a25437aa644f45c1d530af40e3", func := "hachure/hachurelaw15.TierSpans", spec := "tierSpans", apart := false, narrowed := true }
def TierSpansUptoSaid : Prop := tierSpansUptoRow.holds Try.pinned (OpenSpec.upto tierSpansSpec)

/-- 'hachurelaw15.TierKids', WHERE WHAT IT READS IS OF BULK AT MOST 1048576: true; the input reads as it did. -/
def tierKidsUptoRow : OpenClaim := { program := "ytagahpfinaaemaa", sum := "934c9015d52e1e0040d4f53d986a092ebea761a25437aa644f45c1d530af40e3", func := "hachure/hachurelaw15.TierKids", spec := "tierKids", apart := false, narrowed := true }
def TierKidsUptoSaid : Prop := tierKidsUptoRow.holds Try.pinned (OpenSpec.upto tierKidsSpec)

end Rows
end Go.Proofs.Ytagahpfinaaemaa
