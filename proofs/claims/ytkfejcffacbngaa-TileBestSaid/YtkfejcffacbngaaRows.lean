/-
  No cell of these rows narrows 'for every input' (looked for: loops, veiled, ifaces, maps, wideKeys, modest, calm, conditions, laid).
  DERIVED. THE GIVEN ROWS OF THIS SEAT. 16 by the template 'for every input the law returns true; each argument reads behind the call as it read before'; 0 by the template 'total and deterministic' (their statements: YtkfejcffacbngaaTotals.lean).
  GIVEN WITH THE SEED: the statements are not yours to turn. If you find one false, say at which input.
  Laid BY PROGRAM, IN A SANDBOX (cutbox-rows.mjs): the forced cells as the released guide's own fill.sh prints them over the translation 0d4b993a1843febd… (all of the seat's roots in one cut). By AI agents, Wed Nov 11 2026. No macro, syntax, notation, axiom, sorry.
-/
import Derived.Test.YtkfejcffacbngaaChecked
import GoSem.Claim
import GoSem.ClaimJoined
import GoSem.ClaimMapViews
import Derived.JoinedTies
import Derived.KernelRfl
namespace Go.Proofs.Ytkfejcffacbngaa
/- THE CELL 'sum', in the pinned program and in every row, IS THE sha256 OF THE DUMP (.gsa) THAT YtkfejcffacbngaaProg.lean LOADS. Nothing in Lean hashes anything: it is a label: what it is worth is what the hold of that sum in a sandbox is worth. -/
noncomputable def Try.pinned : Pinned := { name := "ytkfejcffacbngaa", sum := "0d4b993a1843febd251d6b39404ac3f1a2f23b37deb96f2ea499315831577ab6", checked := Try.checked }
namespace Rows
def none {H : Type} : Left H := { results := [], args := [] }

/-- 'hachurelaw05.RunsPuts': WHATEVER THE INPUT: true; the input reads as it did. -/
def runsPutsSpec : ChangeSpec := { name := "runsPuts", fn := fun _ => fun
  | [d1, d2, d3] => { results := [.lit (.bool true)], args := [d1, d2, d3] }
  | _ => none }
def runsPutsRow : OpenClaim := { program := "ytkfejcffacbngaa", sum := "0d4b993a1843febd251d6b39404ac3f1a2f23b37deb96f2ea499315831577ab6", func := "hachure/hachurelaw05.RunsPuts", spec := "runsPuts", unfollowed := true, recurses := true, apart := false }
def RunsPutsSaid : Prop := runsPutsRow.holds Try.pinned (OpenSpec.ofChange runsPutsSpec)

/-- ITS FALSE NEIGHBOUR: 'it returns false'. Refute it at one input. -/
def runsPutsWrong : ChangeSpec := { name := "runsPuts", fn := fun _ => fun
  | [d1, d2, d3] => { results := [.lit (.bool false)], args := [d1, d2, d3] }
  | _ => none }
def RunsPutsWrongFalsely : Prop := runsPutsRow.holds Try.pinned (OpenSpec.ofChange runsPutsWrong)

/-- 'hachurelaw05.RunsGets': WHATEVER THE INPUT: true; the input reads as it did. -/
def runsGetsSpec : ChangeSpec := { name := "runsGets", fn := fun _ => fun
  | [d1, d2, d3] => { results := [.lit (.bool true)], args := [d1, d2, d3] }
  | _ => none }
def runsGetsRow : OpenClaim := { program := "ytkfejcffacbngaa", sum := "0d4b993a1843febd251d6b39404ac3f1a2f23b37deb96f2ea499315831577ab6", func := "hachure/hachurelaw05.RunsGets", spec := "runsGets", unfollowed := true, recurses := true, apart := false }
def RunsGetsSaid : Prop := runsGetsRow.holds Try.pinned (OpenSpec.ofChange runsGetsSpec)

/-- ITS FALSE NEIGHBOUR: 'it returns false'. Refute it at one input. -/
def runsGetsWrong : ChangeSpec := { name := "runsGets", fn := fun _ => fun
  | [d1, d2, d3] => { results := [.lit (.bool false)], args := [d1, d2, d3] }
  | _ => none }
def RunsGetsWrongFalsely : Prop := runsGetsRow.holds Try.pinned (OpenSpec.ofChange runsGetsWrong)

/-- 'hachurelaw05.RunsShort': WHATEVER THE INPUT: true; the input reads as it did. -/
def runsShortSpec : ChangeSpec := { name := "runsShort", fn := fun _ => fun
  | [d1, d2] => { results := [.lit (.bool true)], args := [d1, d2] }
  | _ => none }
def runsShortRow : OpenClaim := { program := "ytkfejcffacbngaa", sum := "0d4b993a1843febd251d6b39404ac3f1a2f23b37deb96f2ea499315831577ab6", func := "hachure/hachurelaw05.RunsShort", spec := "runsShort", unfollowed := true, recurses := true, apart := false }
def RunsShortSaid : Prop := runsShortRow.holds Try.pinned (OpenSpec.ofChange runsShortSpec)

/-- ITS FALSE NEIGHBOUR: 'it returns false'. Refute it at one input. -/
def runsShortWrong : ChangeSpec := { name := "runsShort", fn := fun _ => fun
  | [d1, d2] => { results := [.lit (.bool false)], args := [d1, d2] }
  | _ => none }
def RunsShortWrongFalsely : Prop := runsShortRow.holds Try.pinned (OpenSpec.ofChange runsShortWrong)

/-- 'hachurelaw06.TilePuts': WHATEVER THE INPUT: true; the input reads as it did. -/
def tilePutsSpec : ChangeSpec := { name := "tilePuts", fn := fun _ => fun
  | [d1, d2, d3, d4] => { results := [.lit (.bool true)], args := [d1, d2, d3, d4] }
  | _ => none }
def tilePutsRow : OpenClaim := { program := "ytkfejcffacbngaa", sum := "0d4b993a1843febd251d6b39404ac3f1a2f23b37deb96f2ea499315831577ab6", func := "hachure/hachurelaw06.TilePuts", spec := "tilePuts", unfollowed := true, recurses := true, apart := false }
def TilePutsSaid : Prop := tilePutsRow.holds Try.pinned (OpenSpec.ofChange tilePutsSpec)

/-- ITS FALSE NEIGHBOUR: 'it returns false'. Refute it at one input. -/
def tilePutsWrong : ChangeSpec := { name := "tilePuts", fn := fun _ => fun
  | [d1, d2, d3, d4] => { results := [.lit (.bool false)], args := [d1, d2, d3, d4] }
  | _ => none }
def TilePutsWrongFalsely : Prop := tilePutsRow.holds Try.pinned (OpenSpec.ofChange tilePutsWrong)

/-- 'hachurelaw06.TileGets': WHATEVER THE INPUT: true; the input reads as it did. -/
def tileGetsSpec : ChangeSpec := { name := "tileGets", fn := fun _ => fun
  | [d1, d2, d3] => { results := [.lit (.bool true)], args := [d1, d2, d3] }
  | _ => none }
def tileGetsRow : OpenClaim := { program := "ytkfejcffacbngaa", sum := "0d4b993a1843febd251d6b39404ac3f1a2f23b37deb96f2ea499315831577ab6", func := "hachure/hachurelaw06.TileGets", spec := "tileGets", unfollowed := true, recurses := true, apart := false }
def TileGetsSaid : Prop := tileGetsRow.holds Try.pinned (OpenSpec.ofChange tileGetsSpec)

/-- ITS FALSE NEIGHBOUR: 'it returns false'. Refute it at one input. -/
def tileGetsWrong : ChangeSpec := { name := "tileGets", fn := fun _ => fun
  | [d1, d2, d3] => { results := [.lit (.bool false)], args := [d1, d2, d3] }
  | _ => none }
def TileGetsWrongFalsely : Prop := tileGetsRow.holds Try.pinned (OpenSpec.ofChange tileGetsWrong)

/-- 'hachurelaw06.TileBest': WHATEVER THE INPUT: true; the input reads as it did. -/
def tileBestSpec : ChangeSpec := { name := "tileBest", fn := fun _ => fun
  | [d1, d2, d3] => { results := [.lit (.bool true)], args := [d1, d2, d3] }
  | _ => none }
def tileBestRow : OpenClaim := { program := "ytkfejcffacbngaa", sum := "0d4b993a1843febd251d6b39404ac3f1a2f23b37deb96f2ea499315831577ab6", func := "hachure/hachurelaw06.TileBest", spec := "tileBest", unfollowed := true, recurses := true, apart := false }
def TileBestSaid : Prop := tileBestRow.holds Try.pinned (OpenSpec.ofChange tileBestSpec)

/-- ITS FALSE NEIGHBOUR: 'it returns false'. Refute it at one input. -/
def tileBestWrong : ChangeSpec := { name := "tileBest", fn := fun _ => fun
  | [d1, d2, d3] => { results := [.lit (.bool false)], args := [d1, d2, d3] }
  | _ => none }
def TileBestWrongFalsely : Prop := tileBestRow.holds Try.pinned (OpenSpec.ofChange tileBestWrong)

/-- 'hachurelaw13.DirPuts': WHATEVER THE INPUT: true; the input reads as it did. -/
def dirPutsSpec : ChangeSpec := { name := "dirPuts", fn := fun _ => fun
  | [d1, d2, d3, d4] => { results := [.lit (.bool true)], args := [d1, d2, d3, d4] }
  | _ => none }
def dirPutsRow : OpenClaim := { program := "ytkfejcffacbngaa", sum := "0d4b993a1843febd251d6b39404ac3f1a2f23b37deb96f2ea499315831577ab6", func := "hachure/hachurelaw13.DirPuts", spec := "dirPuts", unfollowed := true, recurses := true, apart := false }
def DirPutsSaid : Prop := dirPutsRow.holds Try.pinned (OpenSpec.ofChange dirPutsSpec)

/-- ITS FALSE NEIGHBOUR: 'it returns false'. Refute it at one input. -/
def dirPutsWrong : ChangeSpec := { name := "dirPuts", fn := fun _ => fun
  | [d1, d2, d3, d4] => { results := [.lit (.bool false)], args := [d1, d2, d3, d4] }
  | _ => none }
def DirPutsWrongFalsely : Prop := dirPutsRow.holds Try.pinned (OpenSpec.ofChange dirPutsWrong)

/-- 'hachurelaw13.DirGets': WHATEVER THE INPUT: true; the input reads as it did. -/
def dirGetsSpec : ChangeSpec := { name := "dirGets", fn := fun _ => fun
  | [d] => { results := [.lit (.bool true)], args := [d] }
  | _ => none }
def dirGetsRow : OpenClaim := { program := "ytkfejcffacbngaa", sum := "0d4b993a1843febd251d6b39404ac3f1a2f23b37deb96f2ea499315831577ab6", func := "hachure/hachurelaw13.DirGets", spec := "dirGets", unfollowed := true, recurses := true, apart := false }
def DirGetsSaid : Prop := dirGetsRow.holds Try.pinned (OpenSpec.ofChange dirGetsSpec)

/-- ITS FALSE NEIGHBOUR: 'it returns false'. Refute it at one input. -/
def dirGetsWrong : ChangeSpec := { name := "dirGets", fn := fun _ => fun
  | [d] => { results := [.lit (.bool false)], args := [d] }
  | _ => none }
def DirGetsWrongFalsely : Prop := dirGetsRow.holds Try.pinned (OpenSpec.ofChange dirGetsWrong)

/-- 'hachurelaw33.TintSigns': WHATEVER THE INPUT: true; the input reads as it did. -/
def tintSignsSpec : ChangeSpec := { name := "tintSigns", fn := fun _ => fun
  | [d1, d2, d3] => { results := [.lit (.bool true)], args := [d1, d2, d3] }
  | _ => none }
def tintSignsRow : OpenClaim := { program := "ytkfejcffacbngaa", sum := "0d4b993a1843febd251d6b39404ac3f1a2f23b37deb96f2ea499315831577ab6", func := "hachure/hachurelaw33.TintSigns", spec := "tintSigns", inPlace := ["internal/bytealg.IndexByteString", "internal/bytealg.IndexString"], unfollowed := true, recurses := true, named := ["internal/bytealg.MaxLen"], apart := false }
def TintSignsSaid : Prop := tintSignsRow.holds Try.pinned (OpenSpec.ofChange tintSignsSpec)

/-- ITS FALSE NEIGHBOUR: 'it returns false'. Refute it at one input. -/
def tintSignsWrong : ChangeSpec := { name := "tintSigns", fn := fun _ => fun
  | [d1, d2, d3] => { results := [.lit (.bool false)], args := [d1, d2, d3] }
  | _ => none }
def TintSignsWrongFalsely : Prop := tintSignsRow.holds Try.pinned (OpenSpec.ofChange tintSignsWrong)

/-- 'hachurelaw33.TintBack': WHATEVER THE INPUT: true; the input reads as it did. -/
def tintBackSpec : ChangeSpec := { name := "tintBack", fn := fun _ => fun
  | [d1, d2, d3] => { results := [.lit (.bool true)], args := [d1, d2, d3] }
  | _ => none }
def tintBackRow : OpenClaim := { program := "ytkfejcffacbngaa", sum := "0d4b993a1843febd251d6b39404ac3f1a2f23b37deb96f2ea499315831577ab6", func := "hachure/hachurelaw33.TintBack", spec := "tintBack", inPlace := ["internal/bytealg.IndexByteString", "internal/bytealg.IndexString"], unfollowed := true, recurses := true, named := ["internal/bytealg.MaxLen"], apart := false }
def TintBackSaid : Prop := tintBackRow.holds Try.pinned (OpenSpec.ofChange tintBackSpec)

/-- ITS FALSE NEIGHBOUR: 'it returns false'. Refute it at one input. -/
def tintBackWrong : ChangeSpec := { name := "tintBack", fn := fun _ => fun
  | [d1, d2, d3] => { results := [.lit (.bool false)], args := [d1, d2, d3] }
  | _ => none }
def TintBackWrongFalsely : Prop := tintBackRow.holds Try.pinned (OpenSpec.ofChange tintBackWrong)

/-- 'hachurelaw39.DiskPlays': WHATEVER THE INPUT: true; the input reads as it did. -/
def diskPlaysSpec : ChangeSpec := { name := "diskPlays", fn := fun _ => fun
  | [d1, d2] => { results := [.lit (.bool true)], args := [d1, d2] }
  | _ => none }
def diskPlaysRow : OpenClaim := { program := "ytkfejcffacbngaa", sum := "0d4b993a1843febd251d6b39404ac3f1a2f23b37deb96f2ea499315831577ab6", func := "hachure/hachurelaw39.DiskPlays", spec := "diskPlays", unfollowed := true, recurses := true, apart := false }
def DiskPlaysSaid : Prop := diskPlaysRow.holds Try.pinned (OpenSpec.ofChange diskPlaysSpec)

/-- ITS FALSE NEIGHBOUR: 'it returns false'. Refute it at one input. -/
def diskPlaysWrong : ChangeSpec := { name := "diskPlays", fn := fun _ => fun
  | [d1, d2] => { results := [.lit (.bool false)], args := [d1, d2] }
  | _ => none }
def DiskPlaysWrongFalsely : Prop := diskPlaysRow.holds Try.pinned (OpenSpec.ofChange diskPlaysWrong)

/-- 'hachurelaw39.DiskLasts': WHATEVER THE INPUT: true; the input reads as it did. -/
def diskLastsSpec : ChangeSpec := { name := "diskLasts", fn := fun _ => fun
  | [d1, d2, d3, d4] => { results := [.lit (.bool true)], args := [d1, d2, d3, d4] }
  | _ => none }
def diskLastsRow : OpenClaim := { program := "ytkfejcffacbngaa", sum := "0d4b993a1843febd251d6b39404ac3f1a2f23b37deb96f2ea499315831577ab6", func := "hachure/hachurelaw39.DiskLasts", spec := "diskLasts", unfollowed := true, recurses := true, apart := false }
def DiskLastsSaid : Prop := diskLastsRow.holds Try.pinned (OpenSpec.ofChange diskLastsSpec)

/-- ITS FALSE NEIGHBOUR: 'it returns false'. Refute it at one input. -/
def diskLastsWrong : ChangeSpec := { name := "diskLasts", fn := fun _ => fun
  | [d1, d2, d3, d4] => { results := [.lit (.bool false)], args := [d1, d2, d3, d4] }
  | _ => none }
def DiskLastsWrongFalsely : Prop := diskLastsRow.holds Try.pinned (OpenSpec.ofChange diskLastsWrong)

/-- 'hachurelaw39.DiskNil': WHATEVER THE INPUT: true; the input reads as it did. -/
def diskNilSpec : ChangeSpec := { name := "diskNil", fn := fun _ => fun
  | [d] => { results := [.lit (.bool true)], args := [d] }
  | _ => none }
def diskNilRow : OpenClaim := { program := "ytkfejcffacbngaa", sum := "0d4b993a1843febd251d6b39404ac3f1a2f23b37deb96f2ea499315831577ab6", func := "hachure/hachurelaw39.DiskNil", spec := "diskNil", unfollowed := true, recurses := true, apart := false }
def DiskNilSaid : Prop := diskNilRow.holds Try.pinned (OpenSpec.ofChange diskNilSpec)

/-- ITS FALSE NEIGHBOUR: 'it returns false'. Refute it at one input. -/
def diskNilWrong : ChangeSpec := { name := "diskNil", fn := fun _ => fun
  | [d] => { results := [.lit (.bool false)], args := [d] }
  | _ => none }
def DiskNilWrongFalsely : Prop := diskNilRow.holds Try.pinned (OpenSpec.ofChange diskNilWrong)

/-- 'hachurelaw40.JournalPuts': WHATEVER THE INPUT: true; the input reads as it did. -/
def journalPutsSpec : ChangeSpec := { name := "journalPuts", fn := fun _ => fun
  | [d1, d2, d3] => { results := [.lit (.bool true)], args := [d1, d2, d3] }
  | _ => none }
def journalPutsRow : OpenClaim := { program := "ytkfejcffacbngaa", sum := "0d4b993a1843febd251d6b39404ac3f1a2f23b37deb96f2ea499315831577ab6", func := "hachure/hachurelaw40.JournalPuts", spec := "journalPuts", apart := false }
def JournalPutsSaid : Prop := journalPutsRow.holds Try.pinned (OpenSpec.ofChange journalPutsSpec)

/-- ITS FALSE NEIGHBOUR: 'it returns false'. Refute it at one input. -/
def journalPutsWrong : ChangeSpec := { name := "journalPuts", fn := fun _ => fun
  | [d1, d2, d3] => { results := [.lit (.bool false)], args := [d1, d2, d3] }
  | _ => none }
def JournalPutsWrongFalsely : Prop := journalPutsRow.holds Try.pinned (OpenSpec.ofChange journalPutsWrong)

/-- 'hachurelaw40.JournalGets': WHATEVER THE INPUT: true; the input reads as it did. -/
def journalGetsSpec : ChangeSpec := { name := "journalGets", fn := fun _ => fun
  | [d1, d2] => { results := [.lit (.bool true)], args := [d1, d2] }
  | _ => none }
def journalGetsRow : OpenClaim := { program := "ytkfejcffacbngaa", sum := "0d4b993a1843febd251d6b39404ac3f1a2f23b37deb96f2ea499315831577ab6", func := "hachure/hachurelaw40.JournalGets", spec := "journalGets", apart := false }
def JournalGetsSaid : Prop := journalGetsRow.holds Try.pinned (OpenSpec.ofChange journalGetsSpec)

/-- ITS FALSE NEIGHBOUR: 'it returns false'. Refute it at one input. -/
def journalGetsWrong : ChangeSpec := { name := "journalGets", fn := fun _ => fun
  | [d1, d2] => { results := [.lit (.bool false)], args := [d1, d2] }
  | _ => none }
def JournalGetsWrongFalsely : Prop := journalGetsRow.holds Try.pinned (OpenSpec.ofChange journalGetsWrong)

/-- 'hachurelaw40.JournalTorn': WHATEVER THE INPUT: true; the input reads as it did. -/
def journalTornSpec : ChangeSpec := { name := "journalTorn", fn := fun _ => fun
  | [d1, d2, d3] => { results := [.lit (.bool true)], args := [d1, d2, d3] }
  | _ => none }
def journalTornRow : OpenClaim := { program := "ytkfejcffacbngaa", sum := "0d4b993a1843febd251d6b39404ac3f1a2f23b37deb96f2ea499315831577ab6", func := "hachure/hachurelaw40.JournalTorn", spec := "journalTorn", apart := false }
def JournalTornSaid : Prop := journalTornRow.holds Try.pinned (OpenSpec.ofChange journalTornSpec)

/-- ITS FALSE NEIGHBOUR: 'it returns false'. Refute it at one input. -/
def journalTornWrong : ChangeSpec := { name := "journalTorn", fn := fun _ => fun
  | [d1, d2, d3] => { results := [.lit (.bool false)], args := [d1, d2, d3] }
  | _ => none }
def JournalTornWrongFalsely : Prop := journalTornRow.holds Try.pinned (OpenSpec.ofChange journalTornWrong)

/- THE SECOND FORM. 'bulk': how many values and letters a reading holds, each counted each time it is reached (what is shared counts as often as it is met; a slice's spare places count too). A statement '..UptoSaid' is the law's where the arguments, and the package variables that the reading takes, are together of bulk at most 1048576: NARROWER than '..Said'. Prove '..Said' where nothing that the law and all that it calls make is longer than what came in: it says more and counts as full. Else prove '..UptoSaid'. A law counts once. -/
mutual
def uptoBulk {H : Type} : DataW H → Nat
  | .lit (.string bytes) => bytes.length + 1
  | .lit _ => 1
  | .nil => 1
  | .ptr d => uptoBulk d + 1
  | .slice elems spare => uptoBulkAll elems + uptoBulkAll spare + 1
  | .agg parts => uptoBulkAll parts + 1
  | .iface _ d => uptoBulk d + 1
  | .map entries => uptoBulkEntries entries + 1
  | .held _ => 1
def uptoBulkAll {H : Type} : List (DataW H) → Nat
  | [] => 0
  | d :: r => uptoBulk d + uptoBulkAll r
def uptoBulkEntries {H : Type} : List (Lit × DataW H) → Nat
  | [] => 0
  | x :: r => uptoBulkEntry x + uptoBulkEntries r
def uptoBulkEntry {H : Type} : Lit × DataW H → Nat
  | (.string bytes, d) => bytes.length + uptoBulk d + 1
  | (_, d) => uptoBulk d + 1
 end
def uptoSmall : (H : Type) → List (DataW H) → Bool := fun _ ds => decide (uptoBulkAll ds ≤ 1048576)
def OpenSpec.upto (s : _root_.Go.ChangeSpec) : _root_.Go.OpenSpec := { _root_.Go.OpenSpec.ofChange s with cond := some uptoSmall }

/-- 'hachurelaw05.RunsPuts', WHERE WHAT IT READS IS OF BULK AT MOST 1048576: true; the input reads as it did. -/
def runsPutsUptoRow : OpenClaim := { program := "ytkfejcffacbngaa", sum := "0d4b993a1843febd251d6b39404ac3f1a2f23b37deb96f2ea499315831577ab6", func := "hachure/hachurelaw05.RunsPuts", spec := "runsPuts", unfollowed := true, recurses := true, apart := false, narrowed := true }
def RunsPutsUptoSaid : Prop := runsPutsUptoRow.holds Try.pinned (OpenSpec.upto runsPutsSpec)

/-- 'hachurelaw05.RunsGets', WHERE WHAT IT READS IS OF BULK AT MOST 1048576: true; the input reads as it did. -/
def runsGetsUptoRow : OpenClaim := { program := "ytkfejcffacbngaa", sum := "0d4b993a1843febd251d6b39404ac3f1a2f23b37deb96f2ea499315831577ab6", func := "hachure/hachurelaw05.RunsGets", spec := "runsGets", unfollowed := true, recurses := true, apart := false, narrowed := true }
def RunsGetsUptoSaid : Prop := runsGetsUptoRow.holds Try.pinned (OpenSpec.upto runsGetsSpec)

/-- 'hachurelaw05.RunsShort', WHERE WHAT IT READS IS OF BULK AT MOST 1048576: true; the input reads as it did. -/
def runsShortUptoRow : OpenClaim := { program := "ytkfejcffacbngaa", sum := "0d4b993a1843febd251d6b39404ac3f1a2f23b37deb96f2ea499315831577ab6", func := "hachure/hachurelaw05.RunsShort", spec := "runsShort", unfollowed := true, recurses := true, apart := false, narrowed := true }
def RunsShortUptoSaid : Prop := runsShortUptoRow.holds Try.pinned (OpenSpec.upto runsShortSpec)

/-- 'hachurelaw06.TilePuts', WHERE WHAT IT READS IS OF BULK AT MOST 1048576: true; the input reads as it did. -/
def tilePutsUptoRow : OpenClaim := { program := "ytkfejcffacbngaa", sum := "0d4b993a1843febd251d6b39404ac3f1a2f23b37deb96f2ea499315831577ab6", func := "hachure/hachurelaw06.TilePuts", spec := "tilePuts", unfollowed := true, recurses := true, apart := false, narrowed := true }
def TilePutsUptoSaid : Prop := tilePutsUptoRow.holds Try.pinned (OpenSpec.upto tilePutsSpec)

/-- 'hachurelaw06.TileGets', WHERE WHAT IT READS IS OF BULK AT MOST 1048576: true; the input reads as it did. -/
def tileGetsUptoRow : OpenClaim := { program := "ytkfejcffacbngaa", sum := "0d4b993a1843febd251d6b39404ac3f1a2f23b37deb96f2ea499315831577ab6", func := "hachure/hachurelaw06.TileGets", spec := "tileGets", unfollowed := true, recurses := true, apart := false, narrowed := true }
def TileGetsUptoSaid : Prop := tileGetsUptoRow.holds Try.pinned (OpenSpec.upto tileGetsSpec)

/-- 'hachurelaw06.TileBest', WHERE WHAT IT READS IS OF BULK AT MOST 1048576: true; the input reads as it did. -/
def tileBestUptoRow : OpenClaim := { program := "ytkfejcffacbngaa", sum := "0d4b993a1843febd251d6b39404ac3f1a2f23b37deb96f2ea499315831577ab6", func := "hachure/hachurelaw06.TileBest", spec := "tileBest", unfollowed := true, recurses := true, apart := false, narrowed := true }
def TileBestUptoSaid : Prop := tileBestUptoRow.holds Try.pinned (OpenSpec.upto tileBestSpec)

/-- 'hachurelaw13.DirPuts', WHERE WHAT IT READS IS OF BULK AT MOST 1048576: true; the input reads as it did. -/
def dirPutsUptoRow : OpenClaim := { program := "ytkfejcffacbngaa", sum := "0d4b993a1843febd251d6b39404ac3f1a2f23b37deb96f2ea499315831577ab6", func := "hachure/hachurelaw13.DirPuts", spec := "dirPuts", unfollowed := true, recurses := true, apart := false, narrowed := true }
def DirPutsUptoSaid : Prop := dirPutsUptoRow.holds Try.pinned (OpenSpec.upto dirPutsSpec)

/-- 'hachurelaw13.DirGets', WHERE WHAT IT READS IS OF BULK AT MOST 1048576: true; the input reads as it did. -/
def dirGetsUptoRow : OpenClaim := { program := "ytkfejcffacbngaa", sum := "0d4b993a1843febd251d6b39404ac3f1a2f23b37deb96f2ea499315831577ab6", func := "hachure/hachurelaw13.DirGets", spec := "dirGets", unfollowed := true, recurses := true, apart := false, narrowed := true }
def DirGetsUptoSaid : Prop := dirGetsUptoRow.holds Try.pinned (OpenSpec.upto dirGetsSpec)

/-- 'hachurelaw33.TintSigns', WHERE WHAT IT READS IS OF BULK AT MOST 1048576: true; the input reads as it did. -/
def tintSignsUptoRow : OpenClaim := { program := "ytkfejcffacbngaa", sum := "0d4b993a1843febd251d6b39404ac3f1a2f23b37deb96f2ea499315831577ab6", func := "hachure/hachurelaw33.TintSigns", spec := "tintSigns", inPlace := ["internal/bytealg.IndexByteString", "internal/bytealg.IndexString"], unfollowed := true, recurses := true, named := ["internal/bytealg.MaxLen"], apart := false, narrowed := true }
def TintSignsUptoSaid : Prop := tintSignsUptoRow.holds Try.pinned (OpenSpec.upto tintSignsSpec)

/-- 'hachurelaw33.TintBack', WHERE WHAT IT READS IS OF BULK AT MOST 1048576: true; the input reads as it did. -/
def tintBackUptoRow : OpenClaim := { program := "ytkfejcffacbngaa", sum := "0d4b993a1843febd251d6b39404ac3f1a2f23b37deb96f2ea499315831577ab6", func := "hachure/hachurelaw33.TintBack", spec := "tintBack", inPlace := ["internal/bytealg.IndexByteString", "internal/bytealg.IndexString"], unfollowed := true, recurses := true, named := ["internal/bytealg.MaxLen"], apart := false, narrowed := true }
def TintBackUptoSaid : Prop := tintBackUptoRow.holds Try.pinned (OpenSpec.upto tintBackSpec)

/-- 'hachurelaw39.DiskPlays', WHERE WHAT IT READS IS OF BULK AT MOST 1048576: true; the input reads as it did. -/
def diskPlaysUptoRow : OpenClaim := { program := "ytkfejcffacbngaa", sum := "0d4b993a1843febd251d6b39404ac3f1a2f23b37deb96f2ea499315831577ab6", func := "hachure/hachurelaw39.DiskPlays", spec := "diskPlays", unfollowed := true, recurses := true, apart := false, narrowed := true }
def DiskPlaysUptoSaid : Prop := diskPlaysUptoRow.holds Try.pinned (OpenSpec.upto diskPlaysSpec)

/-- 'hachurelaw39.DiskLasts', WHERE WHAT IT READS IS OF BULK AT MOST 1048576: true; the input reads as it did. -/
def diskLastsUptoRow : OpenClaim := { program := "ytkfejcffacbngaa", sum := "0d4b993a1843febd251d6b39404ac3f1a2f23b37deb96f2ea499315831577ab6", func := "hachure/hachurelaw39.DiskLasts", spec := "diskLasts", unfollowed := true, recurses := true, apart := false, narrowed := true }
def DiskLastsUptoSaid : Prop := diskLastsUptoRow.holds Try.pinned (OpenSpec.upto diskLastsSpec)

/-- 'hachurelaw39.DiskNil', WHERE WHAT IT READS IS OF BULK AT MOST 1048576: true; the input reads as it did. -/
def diskNilUptoRow : OpenClaim := { program := "ytkfejcffacbngaa", sum := "0d4b993a1843febd251d6b39404ac3f1a2f23b37deb96f2ea499315831577ab6", func := "hachure/hachurelaw39.DiskNil", spec := "diskNil", unfollowed := true, recurses := true, apart := false, narrowed := true }
def DiskNilUptoSaid : Prop := diskNilUptoRow.holds Try.pinned (OpenSpec.upto diskNilSpec)

/-- 'hachurelaw40.JournalPuts', WHERE WHAT IT READS IS OF BULK AT MOST 1048576: true; the input reads as it did. -/
def journalPutsUptoRow : OpenClaim := { program := "ytkfejcffacbngaa", sum := "0d4b993a1843febd251d6b39404ac3f1a2f23b37deb96f2ea499315831577ab6", func := "hachure/hachurelaw40.JournalPuts", spec := "journalPuts", apart := false, narrowed := true }
def JournalPutsUptoSaid : Prop := journalPutsUptoRow.holds Try.pinned (OpenSpec.upto journalPutsSpec)

/-- 'hachurelaw40.JournalGets', WHERE WHAT IT READS IS OF BULK AT MOST 1048576: true; the input reads as it did. -/
def journalGetsUptoRow : OpenClaim := { program := "ytkfejcffacbngaa", sum := "0d4b993a1843febd251d6b39404ac3f1a2f23b37deb96f2ea499315831577ab6", func := "hachure/hachurelaw40.JournalGets", spec := "journalGets", apart := false, narrowed := true }
def JournalGetsUptoSaid : Prop := journalGetsUptoRow.holds Try.pinned (OpenSpec.upto journalGetsSpec)

/-- 'hachurelaw40.JournalTorn', WHERE WHAT IT READS IS OF BULK AT MOST 1048576: true; the input reads as it did. -/
def journalTornUptoRow : OpenClaim := { program := "ytkfejcffacbngaa", sum := "0d4b993a1843febd251d6b39404ac3f1a2f23b37deb96f2ea499315831577ab6", func := "hachure/hachurelaw40.JournalTorn", spec := "journalTorn", apart := false, narrowed := true }
def JournalTornUptoSaid : Prop := journalTornUptoRow.holds Try.pinned (OpenSpec.upto journalTornSpec)

end Rows
end Go.Proofs.Ytkfejcffacbngaa
