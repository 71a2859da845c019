/-
  No cell of these rows narrows 'for every input' (looked for: loops, veiled, ifaces, maps, wideKeys, modest, calm, conditions, laid).
  DERIVED. THE GIVEN ROWS OF THIS SEAT. 10 by the template 'for every input the law returns true; each argument reads behind the call as it read before'; 0 by the template 'total and deterministic' (their statements: YtafokllnelibcaaTotals.lean).
  GIVEN WITH THE SEED: the statements are not yours to turn. If you find one false, say at which input.
  Laid BY PROGRAM, IN A SANDBOX (cutbox-rows.mjs): the forced cells as the released guide's own fill.sh prints them over the translation f894178ccef7ecaa… (all of the seat's roots in one cut). By AI agents, Wed Nov 11 2026. No macro, syntax, notation, axiom, sorry.
-/
import Derived.Test.YtafokllnelibcaaChecked
import GoSem.Claim
import GoSem.ClaimJoined
import GoSem.ClaimMapViews
import Derived.JoinedTies
import Derived.KernelRfl
namespace Go.Proofs.Ytafokllnelibcaa
/- THE CELL 'sum', in the pinned program and in every row, IS THE sha256 OF THE DUMP (.gsa) THAT YtafokllnelibcaaProg.lean LOADS. Nothing in Lean hashes anything: it is a label: what it is worth is what the hold of that sum in a sandbox is worth. -/
noncomputable def Try.pinned : Pinned := { name := "ytafokllnelibcaa", sum := "f894178ccef7ecaad8b0f6d24483209e78fcde0cf90d1e8fb8633128f7a3539e", checked := Try.checked }
namespace Rows
def none {H : Type} : Left H := { results := [], args := [] }

/-- 'hachurelaw04.PredGuesses': WHATEVER THE INPUT: true; the input reads as it did. -/
def predGuessesSpec : ChangeSpec := { name := "predGuesses", fn := fun _ => fun
  | [d1, d2, d3, d4] => { results := [.lit (.bool true)], args := [d1, d2, d3, d4] }
  | _ => none }
def predGuessesRow : OpenClaim := { program := "ytafokllnelibcaa", sum := "f894178ccef7ecaad8b0f6d24483209e78fcde0cf90d1e8fb8633128f7a3539e", func := "hachure/hachurelaw04.PredGuesses", spec := "predGuesses", apart := false }
def PredGuessesSaid : Prop := predGuessesRow.holds Try.pinned (OpenSpec.ofChange predGuessesSpec)

/-- ITS FALSE NEIGHBOUR: 'it returns false'. Refute it at one input. -/
def predGuessesWrong : ChangeSpec := { name := "predGuesses", fn := fun _ => fun
  | [d1, d2, d3, d4] => { results := [.lit (.bool false)], args := [d1, d2, d3, d4] }
  | _ => none }
def PredGuessesWrongFalsely : Prop := predGuessesRow.holds Try.pinned (OpenSpec.ofChange predGuessesWrong)

/-- 'hachurelaw04.PredRests': WHATEVER THE INPUT: true; the input reads as it did. -/
def predRestsSpec : ChangeSpec := { name := "predRests", fn := fun _ => fun
  | [d1, d2, d3] => { results := [.lit (.bool true)], args := [d1, d2, d3] }
  | _ => none }
def predRestsRow : OpenClaim := { program := "ytafokllnelibcaa", sum := "f894178ccef7ecaad8b0f6d24483209e78fcde0cf90d1e8fb8633128f7a3539e", func := "hachure/hachurelaw04.PredRests", spec := "predRests", apart := false }
def PredRestsSaid : Prop := predRestsRow.holds Try.pinned (OpenSpec.ofChange predRestsSpec)

/-- ITS FALSE NEIGHBOUR: 'it returns false'. Refute it at one input. -/
def predRestsWrong : ChangeSpec := { name := "predRests", fn := fun _ => fun
  | [d1, d2, d3] => { results := [.lit (.bool false)], args := [d1, d2, d3] }
  | _ => none }
def PredRestsWrongFalsely : Prop := predRestsRow.holds Try.pinned (OpenSpec.ofChange predRestsWrong)

/-- 'hachurelaw04.PredCells': WHATEVER THE INPUT: true; the input reads as it did. -/
def predCellsSpec : ChangeSpec := { name := "predCells", fn := fun _ => fun
  | [d1, d2, d3] => { results := [.lit (.bool true)], args := [d1, d2, d3] }
  | _ => none }
def predCellsRow : OpenClaim := { program := "ytafokllnelibcaa", sum := "f894178ccef7ecaad8b0f6d24483209e78fcde0cf90d1e8fb8633128f7a3539e", func := "hachure/hachurelaw04.PredCells", spec := "predCells", apart := false }
def PredCellsSaid : Prop := predCellsRow.holds Try.pinned (OpenSpec.ofChange predCellsSpec)

/-- ITS FALSE NEIGHBOUR: 'it returns false'. Refute it at one input. -/
def predCellsWrong : ChangeSpec := { name := "predCells", fn := fun _ => fun
  | [d1, d2, d3] => { results := [.lit (.bool false)], args := [d1, d2, d3] }
  | _ => none }
def PredCellsWrongFalsely : Prop := predCellsRow.holds Try.pinned (OpenSpec.ofChange predCellsWrong)

/-- 'hachurelaw04.PredFlat': WHATEVER THE INPUT: true; the input reads as it did. -/
def predFlatSpec : ChangeSpec := { name := "predFlat", fn := fun _ => fun
  | [d1, d2, d3, d4, d5] => { results := [.lit (.bool true)], args := [d1, d2, d3, d4, d5] }
  | _ => none }
def predFlatRow : OpenClaim := { program := "ytafokllnelibcaa", sum := "f894178ccef7ecaad8b0f6d24483209e78fcde0cf90d1e8fb8633128f7a3539e", func := "hachure/hachurelaw04.PredFlat", spec := "predFlat", apart := false }
def PredFlatSaid : Prop := predFlatRow.holds Try.pinned (OpenSpec.ofChange predFlatSpec)

/-- ITS FALSE NEIGHBOUR: 'it returns false'. Refute it at one input. -/
def predFlatWrong : ChangeSpec := { name := "predFlat", fn := fun _ => fun
  | [d1, d2, d3, d4, d5] => { results := [.lit (.bool false)], args := [d1, d2, d3, d4, d5] }
  | _ => none }
def PredFlatWrongFalsely : Prop := predFlatRow.holds Try.pinned (OpenSpec.ofChange predFlatWrong)

/-- 'hachurelaw23.RayCells': WHATEVER THE INPUT: true; the input reads as it did. -/
def rayCellsSpec : ChangeSpec := { name := "rayCells", fn := fun _ => fun
  | [d1, d2, d3] => { results := [.lit (.bool true)], args := [d1, d2, d3] }
  | _ => none }
def rayCellsRow : OpenClaim := { program := "ytafokllnelibcaa", sum := "f894178ccef7ecaad8b0f6d24483209e78fcde0cf90d1e8fb8633128f7a3539e", func := "hachure/hachurelaw23.RayCells", spec := "rayCells", apart := false }
def RayCellsSaid : Prop := rayCellsRow.holds Try.pinned (OpenSpec.ofChange rayCellsSpec)

/-- ITS FALSE NEIGHBOUR: 'it returns false'. Refute it at one input. -/
def rayCellsWrong : ChangeSpec := { name := "rayCells", fn := fun _ => fun
  | [d1, d2, d3] => { results := [.lit (.bool false)], args := [d1, d2, d3] }
  | _ => none }
def RayCellsWrongFalsely : Prop := rayCellsRow.holds Try.pinned (OpenSpec.ofChange rayCellsWrong)

/-- 'hachurelaw23.RaySteps': WHATEVER THE INPUT: true; the input reads as it did. -/
def rayStepsSpec : ChangeSpec := { name := "raySteps", fn := fun _ => fun
  | [d1, d2] => { results := [.lit (.bool true)], args := [d1, d2] }
  | _ => none }
def rayStepsRow : OpenClaim := { program := "ytafokllnelibcaa", sum := "f894178ccef7ecaad8b0f6d24483209e78fcde0cf90d1e8fb8633128f7a3539e", func := "hachure/hachurelaw23.RaySteps", spec := "raySteps", apart := false }
def RayStepsSaid : Prop := rayStepsRow.holds Try.pinned (OpenSpec.ofChange rayStepsSpec)

/-- ITS FALSE NEIGHBOUR: 'it returns false'. Refute it at one input. -/
def rayStepsWrong : ChangeSpec := { name := "raySteps", fn := fun _ => fun
  | [d1, d2] => { results := [.lit (.bool false)], args := [d1, d2] }
  | _ => none }
def RayStepsWrongFalsely : Prop := rayStepsRow.holds Try.pinned (OpenSpec.ofChange rayStepsWrong)

/-- 'hachurelaw23.RayTurns': WHATEVER THE INPUT: true; the input reads as it did. -/
def rayTurnsSpec : ChangeSpec := { name := "rayTurns", fn := fun _ => fun
  | [d1, d2] => { results := [.lit (.bool true)], args := [d1, d2] }
  | _ => none }
def rayTurnsRow : OpenClaim := { program := "ytafokllnelibcaa", sum := "f894178ccef7ecaad8b0f6d24483209e78fcde0cf90d1e8fb8633128f7a3539e", func := "hachure/hachurelaw23.RayTurns", spec := "rayTurns", apart := false }
def RayTurnsSaid : Prop := rayTurnsRow.holds Try.pinned (OpenSpec.ofChange rayTurnsSpec)

/-- ITS FALSE NEIGHBOUR: 'it returns false'. Refute it at one input. -/
def rayTurnsWrong : ChangeSpec := { name := "rayTurns", fn := fun _ => fun
  | [d1, d2] => { results := [.lit (.bool false)], args := [d1, d2] }
  | _ => none }
def RayTurnsWrongFalsely : Prop := rayTurnsRow.holds Try.pinned (OpenSpec.ofChange rayTurnsWrong)

/-- 'hachurelaw24.SlopeCompares': WHATEVER THE INPUT: true; the input reads as it did. -/
def slopeComparesSpec : ChangeSpec := { name := "slopeCompares", fn := fun _ => fun
  | [d1, d2] => { results := [.lit (.bool true)], args := [d1, d2] }
  | _ => none }
def slopeComparesRow : OpenClaim := { program := "ytafokllnelibcaa", sum := "f894178ccef7ecaad8b0f6d24483209e78fcde0cf90d1e8fb8633128f7a3539e", func := "hachure/hachurelaw24.SlopeCompares", spec := "slopeCompares", apart := false }
def SlopeComparesSaid : Prop := slopeComparesRow.holds Try.pinned (OpenSpec.ofChange slopeComparesSpec)

/-- ITS FALSE NEIGHBOUR: 'it returns false'. Refute it at one input. -/
def slopeComparesWrong : ChangeSpec := { name := "slopeCompares", fn := fun _ => fun
  | [d1, d2] => { results := [.lit (.bool false)], args := [d1, d2] }
  | _ => none }
def SlopeComparesWrongFalsely : Prop := slopeComparesRow.holds Try.pinned (OpenSpec.ofChange slopeComparesWrong)

/-- 'hachurelaw24.SlopeHides': WHATEVER THE INPUT: true; the input reads as it did. -/
def slopeHidesSpec : ChangeSpec := { name := "slopeHides", fn := fun _ => fun
  | [d1, d2, d3, d4, d5] => { results := [.lit (.bool true)], args := [d1, d2, d3, d4, d5] }
  | _ => none }
def slopeHidesRow : OpenClaim := { program := "ytafokllnelibcaa", sum := "f894178ccef7ecaad8b0f6d24483209e78fcde0cf90d1e8fb8633128f7a3539e", func := "hachure/hachurelaw24.SlopeHides", spec := "slopeHides", apart := false }
def SlopeHidesSaid : Prop := slopeHidesRow.holds Try.pinned (OpenSpec.ofChange slopeHidesSpec)

/-- ITS FALSE NEIGHBOUR: 'it returns false'. Refute it at one input. -/
def slopeHidesWrong : ChangeSpec := { name := "slopeHides", fn := fun _ => fun
  | [d1, d2, d3, d4, d5] => { results := [.lit (.bool false)], args := [d1, d2, d3, d4, d5] }
  | _ => none }
def SlopeHidesWrongFalsely : Prop := slopeHidesRow.holds Try.pinned (OpenSpec.ofChange slopeHidesWrong)

/-- 'hachurelaw24.SlopeSteepest': WHATEVER THE INPUT: true; the input reads as it did. -/
def slopeSteepestSpec : ChangeSpec := { name := "slopeSteepest", fn := fun _ => fun
  | [d] => { results := [.lit (.bool true)], args := [d] }
  | _ => none }
def slopeSteepestRow : OpenClaim := { program := "ytafokllnelibcaa", sum := "f894178ccef7ecaad8b0f6d24483209e78fcde0cf90d1e8fb8633128f7a3539e", func := "hachure/hachurelaw24.SlopeSteepest", spec := "slopeSteepest", apart := false }
def SlopeSteepestSaid : Prop := slopeSteepestRow.holds Try.pinned (OpenSpec.ofChange slopeSteepestSpec)

/-- ITS FALSE NEIGHBOUR: 'it returns false'. Refute it at one input. -/
def slopeSteepestWrong : ChangeSpec := { name := "slopeSteepest", fn := fun _ => fun
  | [d] => { results := [.lit (.bool false)], args := [d] }
  | _ => none }
def SlopeSteepestWrongFalsely : Prop := slopeSteepestRow.holds Try.pinned (OpenSpec.ofChange slopeSteepestWrong)

/- THE SECOND FORM. 'bulk': how many values and letters a reading holds, each counted each time it is reached (what is shared counts as often as it is met; a slice's spare places count too). A statement '..UptoSaid' is the law's where the arguments, and the package variables that the reading takes, are together of bulk at most 1048576: NARROWER than '..Said'. Prove '..Said' where nothing that the law and all that it calls make is longer than what came in: it says more and counts as full. Else prove '..UptoSaid'. A law counts once. -/
mutual
def uptoBulk {H : Type} : DataW H → Nat
  | .lit (.string bytes) => bytes.length + 1
  | .lit _ => 1
  | .nil => 1
  | .ptr d => uptoBulk d + 1
  | .slice elems spare => uptoBulkAll elems + uptoBulkAll spare + 1
  | .agg parts => uptoBulkAll parts + 1
  | .iface _ d => uptoBulk d + 1
  | .map entries => uptoBulkEntries entries + 1
  | .held _ => 1
def uptoBulkAll {H : Type} : List (DataW H) → Nat
  | [] => 0
  | d :: r => uptoBulk d + uptoBulkAll r
def uptoBulkEntries {H : Type} : List (Lit × DataW H) → Nat
  | [] => 0
  | x :: r => uptoBulkEntry x + uptoBulkEntries r
def uptoBulkEntry {H : Type} : Lit × DataW H → Nat
  | (.string bytes, d) => bytes.length + uptoBulk d + 1
  | (_, d) => uptoBulk d + 1
 end
def uptoSmall : (H : Type) → List (DataW H) → Bool := fun _ ds => decide (uptoBulkAll ds ≤ 1048576)
def OpenSpec.upto (s : _root_.Go.ChangeSpec) : _root_.Go.OpenSpec := { _root_.Go.OpenSpec.ofChange s with cond := some uptoSmall }

/-- 'hachurelaw04.PredGuesses', WHERE WHAT IT READS IS OF BULK AT MOST 1048576: true; the input reads as it did. -/
def predGuessesUptoRow : OpenClaim := { program := "ytafokllnelibcaa", sum := "f894178ccef7ecaad8b0f6d24483209e78fcde0cf90d1e8fb8633128f7a3539e", func := "hachure/hachurelaw04.PredGuesses", spec := "predGuesses", apart := false, narrowed := true }
def PredGuessesUptoSaid : Prop := predGuessesUptoRow.holds Try.pinned (OpenSpec.upto predGuessesSpec)

/-- 'hachurelaw04.PredRests', WHERE WHAT IT READS IS OF BULK AT MOST 1048576: true; the input reads as it did. -/
def predRestsUptoRow : OpenClaim := { program := "ytafokllnelibcaa", sum := "f894178ccef7ecaad8b0f6d24483209e78fcde0cf90d1e8fb8633128f7a3539e", func := "hachure/hachurelaw04.PredRests", spec := "predRests", apart := false, narrowed := true }
def PredRestsUptoSaid : Prop := predRestsUptoRow.holds Try.pinned (OpenSpec.upto predRestsSpec)

/-- 'hachurelaw04.PredCells', WHERE WHAT IT READS IS OF BULK AT MOST 1048576: true; the input reads as it did. -/
def predCellsUptoRow : OpenClaim := { program := "ytafokllnelibcaa", sum := "f894178ccef7ecaad8b0f6d24483209e78fcde0cf90d1e8fb8633128f7a3539e", func := "hachure/hachurelaw04.PredCells", spec := "predCells", apart := false, narrowed := true }
def PredCellsUptoSaid : Prop := predCellsUptoRow.holds Try.pinned (OpenSpec.upto predCellsSpec)

/-- 'hachurelaw04.PredFlat', WHERE WHAT IT READS IS OF BULK AT MOST 1048576: true; the input reads as it did. -/
def predFlatUptoRow : OpenClaim := { program := "ytafokllnelibcaa", sum := "f894178ccef7ecaad8b0f6d24483209e78fcde0cf90d1e8fb8633128f7a3539e", func := "hachure/hachurelaw04.PredFlat", spec := "predFlat", apart := false, narrowed := true }
def PredFlatUptoSaid : Prop := predFlatUptoRow.holds Try.pinned (OpenSpec.upto predFlatSpec)

/-- 'hachurelaw23.RayCells', WHERE WHAT IT READS IS OF BULK AT MOST 1048576: true; the input reads as it did. -/
def rayCellsUptoRow : OpenClaim := { program := "ytafokllnelibcaa", sum := "f894178ccef7ecaad8b0f6d24483209e78fcde0cf90d1e8fb8633128f7a3539e", func := "hachure/hachurelaw23.RayCells", spec := "rayCells", apart := false, narrowed := true }
def RayCellsUptoSaid : Prop := rayCellsUptoRow.holds Try.pinned (OpenSpec.upto rayCellsSpec)

/-- 'hachurelaw23.RaySteps', WHERE WHAT IT READS IS OF BULK AT MOST 1048576: true; the input reads as it did. -/
def rayStepsUptoRow : OpenClaim := { program := "ytafokllnelibcaa", sum := "f894178ccef7ecaad8b0f6d24483209e78fcde0cf90d1e8fb8633128f7a3539e", func := "hachure/hachurelaw23.RaySteps", spec := "raySteps", apart := false, narrowed := true }
def RayStepsUptoSaid : Prop := rayStepsUptoRow.holds Try.pinned (OpenSpec.upto rayStepsSpec)

/-- 'hachurelaw23.RayTurns', WHERE WHAT IT READS IS OF BULK AT MOST 1048576: true; the input reads as it did. -/
def rayTurnsUptoRow : OpenClaim := { program := "ytafokllnelibcaa", sum := "f894178ccef7ecaad8b0f6d24483209e78fcde0cf90d1e8fb8633128f7a3539e", func := "hachure/hachurelaw23.RayTurns", spec := "rayTurns", apart := false, narrowed := true }
def RayTurnsUptoSaid : Prop := rayTurnsUptoRow.holds Try.pinned (OpenSpec.upto rayTurnsSpec)

/-- 'hachurelaw24.SlopeCompares', WHERE WHAT IT READS IS OF BULK AT MOST 1048576: true; the input reads as it did. -/
def slopeComparesUptoRow : OpenClaim := { program := "ytafokllnelibcaa", sum := "f894178ccef7ecaad8b0f6d24483209e78fcde0cf90d1e8fb8633128f7a3539e", func := "hachure/hachurelaw24.SlopeCompares", spec := "slopeCompares", apart := false, narrowed := true }
def SlopeComparesUptoSaid : Prop := slopeComparesUptoRow.holds Try.pinned (OpenSpec.upto slopeComparesSpec)

/-- 'hachurelaw24.SlopeHides', WHERE WHAT IT READS IS OF BULK AT MOST 1048576: true; the input reads as it did. -/
def slopeHidesUptoRow : OpenClaim := { program := "ytafokllnelibcaa", sum := "f894178ccef7ecaad8b0f6d24483209e78fcde0cf90d1e8fb8633128f7a3539e", func := "hachure/hachurelaw24.SlopeHides", spec := "slopeHides", apart := false, narrowed := true }
def SlopeHidesUptoSaid : Prop := slopeHidesUptoRow.holds Try.pinned (OpenSpec.upto slopeHidesSpec)

/-- 'hachurelaw24.SlopeSteepest', WHERE WHAT IT READS IS OF BULK AT MOST 1048576: true; the input reads as it did. -/
def slopeSteepestUptoRow : OpenClaim := { program := "ytafokllnelibcaa", sum := "f894178ccef7ecaad8b0f6d24483209e78fcde0cf90d1e8fb8633128f7a3539e", func := "hachure/hachurelaw24.SlopeSteepest", spec := "slopeSteepest", apart := false, narrowed := true }
def SlopeSteepestUptoSaid : Prop := slopeSteepestUptoRow.holds Try.pinned (OpenSpec.upto slopeSteepestSpec)

end Rows
end Go.Proofs.Ytafokllnelibcaa
