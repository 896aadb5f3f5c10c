/-
  No cell of these rows narrows 'for every input' (looked for: loops, veiled, ifaces, maps, wideKeys, modest, calm, conditions, laid).
  DERIVED. THE GIVEN ROWS OF THIS SEAT. 14 by the template 'for every input the law returns true; each argument reads behind the call as it read before'; 0 by the template 'total and deterministic' (their statements: YthmhehehomieiaaGreatTotals.lean).
  GIVEN WITH THE SEED: the statements are not yours to turn. If you find one false, say at which input.
  Laid BY PROGRAM, IN A SANDBOX (cutbox-rows.mjs): the forced cells as the released guide's own fill.sh prints them over the translation 649ee37b6f32f679… (all of the seat's roots in one cut). By AI agents, Wed Nov 11 2026. No macro, syntax, notation, axiom, sorry.
-/
import Derived.Test.YthmhehehomieiaaGreatChecked
import GoSem.Claim
import GoSem.ClaimJoined
import GoSem.ClaimMapViews
import Derived.JoinedTies
import Derived.KernelRfl
namespace Go.Proofs.YthmhehehomieiaaGreat
/- THE CELL 'sum', in the pinned program and in every row, IS THE sha256 OF THE DUMP (.gsa) THAT YthmhehehomieiaaGreatProg.lean LOADS. Nothing in Lean hashes anything: it is a label: what it is worth is what the hold of that sum in a sandbox is worth. -/
noncomputable def Tryz.pinned : Pinned := { name := "ythmhehehomieiaagreat", sum := "649ee37b6f32f67932666242ccb859c4811193956fb89fb249a9a545f1366b1a", checked := Tryz.checked }
namespace Rows
def none {H : Type} : Left H := { results := [], args := [] }

/-- 'tilthlaw13.CoreNews': WHATEVER THE INPUT: true; the input reads as it did. -/
def coreNewsSpec : ChangeSpec := { name := "coreNews", fn := fun _ => fun
  | [d] => { results := [.lit (.bool true)], args := [d] }
  | _ => none }
def coreNewsRow : OpenClaim := { program := "ythmhehehomieiaagreat", sum := "649ee37b6f32f67932666242ccb859c4811193956fb89fb249a9a545f1366b1a", func := "tilth/tilthlaw13.CoreNews", spec := "coreNews", unfollowed := true, recurses := true, apart := false }
def CoreNewsSaid : Prop := coreNewsRow.holds Tryz.pinned (OpenSpec.ofChange coreNewsSpec)

/-- ITS FALSE NEIGHBOUR: 'it returns false'. Refute it at one input. -/
def coreNewsWrong : ChangeSpec := { name := "coreNews", fn := fun _ => fun
  | [d] => { results := [.lit (.bool false)], args := [d] }
  | _ => none }
def CoreNewsWrongFalsely : Prop := coreNewsRow.holds Tryz.pinned (OpenSpec.ofChange coreNewsWrong)

/-- 'tilthlaw13.CorePlays': WHATEVER THE INPUT: true; the input reads as it did. -/
def corePlaysSpec : ChangeSpec := { name := "corePlays", fn := fun _ => fun
  | [d1, d2, d3, d4, d5] => { results := [.lit (.bool true)], args := [d1, d2, d3, d4, d5] }
  | _ => none }
def corePlaysRow : OpenClaim := { program := "ythmhehehomieiaagreat", sum := "649ee37b6f32f67932666242ccb859c4811193956fb89fb249a9a545f1366b1a", func := "tilth/tilthlaw13.CorePlays", spec := "corePlays", unfollowed := true, recurses := true, apart := false }
def CorePlaysSaid : Prop := corePlaysRow.holds Tryz.pinned (OpenSpec.ofChange corePlaysSpec)

/-- ITS FALSE NEIGHBOUR: 'it returns false'. Refute it at one input. -/
def corePlaysWrong : ChangeSpec := { name := "corePlays", fn := fun _ => fun
  | [d1, d2, d3, d4, d5] => { results := [.lit (.bool false)], args := [d1, d2, d3, d4, d5] }
  | _ => none }
def CorePlaysWrongFalsely : Prop := corePlaysRow.holds Tryz.pinned (OpenSpec.ofChange corePlaysWrong)

/-- 'tilthlaw13.CoreErrors': WHATEVER THE INPUT: true; the input reads as it did. -/
def coreErrorsSpec : ChangeSpec := { name := "coreErrors", fn := fun _ => fun
  | [d1, d2, d3, d4, d5, d6] => { results := [.lit (.bool true)], args := [d1, d2, d3, d4, d5, d6] }
  | _ => none }
def coreErrorsRow : OpenClaim := { program := "ythmhehehomieiaagreat", sum := "649ee37b6f32f67932666242ccb859c4811193956fb89fb249a9a545f1366b1a", func := "tilth/tilthlaw13.CoreErrors", spec := "coreErrors", unfollowed := true, recurses := true, apart := false }
def CoreErrorsSaid : Prop := coreErrorsRow.holds Tryz.pinned (OpenSpec.ofChange coreErrorsSpec)

/-- ITS FALSE NEIGHBOUR: 'it returns false'. Refute it at one input. -/
def coreErrorsWrong : ChangeSpec := { name := "coreErrors", fn := fun _ => fun
  | [d1, d2, d3, d4, d5, d6] => { results := [.lit (.bool false)], args := [d1, d2, d3, d4, d5, d6] }
  | _ => none }
def CoreErrorsWrongFalsely : Prop := coreErrorsRow.holds Tryz.pinned (OpenSpec.ofChange coreErrorsWrong)

/-- 'tilthlaw13.CoreNone': WHATEVER THE INPUT: true; the input reads as it did. -/
def coreNoneSpec : ChangeSpec := { name := "coreNone", fn := fun _ => fun
  | [d1, d2] => { results := [.lit (.bool true)], args := [d1, d2] }
  | _ => none }
def coreNoneRow : OpenClaim := { program := "ythmhehehomieiaagreat", sum := "649ee37b6f32f67932666242ccb859c4811193956fb89fb249a9a545f1366b1a", func := "tilth/tilthlaw13.CoreNone", spec := "coreNone", unfollowed := true, recurses := true, apart := false }
def CoreNoneSaid : Prop := coreNoneRow.holds Tryz.pinned (OpenSpec.ofChange coreNoneSpec)

/-- ITS FALSE NEIGHBOUR: 'it returns false'. Refute it at one input. -/
def coreNoneWrong : ChangeSpec := { name := "coreNone", fn := fun _ => fun
  | [d1, d2] => { results := [.lit (.bool false)], args := [d1, d2] }
  | _ => none }
def CoreNoneWrongFalsely : Prop := coreNoneRow.holds Tryz.pinned (OpenSpec.ofChange coreNoneWrong)

/-- 'tilthlaw13.CoreFresh': WHATEVER THE INPUT: true; the input reads as it did. -/
def coreFreshSpec : ChangeSpec := { name := "coreFresh", fn := fun _ => fun
  | [d1, d2, d3, d4, d5, d6, d7] => { results := [.lit (.bool true)], args := [d1, d2, d3, d4, d5, d6, d7] }
  | _ => none }
def coreFreshRow : OpenClaim := { program := "ythmhehehomieiaagreat", sum := "649ee37b6f32f67932666242ccb859c4811193956fb89fb249a9a545f1366b1a", func := "tilth/tilthlaw13.CoreFresh", spec := "coreFresh", unfollowed := true, recurses := true, apart := false }
def CoreFreshSaid : Prop := coreFreshRow.holds Tryz.pinned (OpenSpec.ofChange coreFreshSpec)

/-- ITS FALSE NEIGHBOUR: 'it returns false'. Refute it at one input. -/
def coreFreshWrong : ChangeSpec := { name := "coreFresh", fn := fun _ => fun
  | [d1, d2, d3, d4, d5, d6, d7] => { results := [.lit (.bool false)], args := [d1, d2, d3, d4, d5, d6, d7] }
  | _ => none }
def CoreFreshWrongFalsely : Prop := coreFreshRow.holds Tryz.pinned (OpenSpec.ofChange coreFreshWrong)

/-- 'tilthlaw13.CoreSteady': WHATEVER THE INPUT: true; the input reads as it did. -/
def coreSteadySpec : ChangeSpec := { name := "coreSteady", fn := fun _ => fun
  | [d1, d2, d3, d4, d5] => { results := [.lit (.bool true)], args := [d1, d2, d3, d4, d5] }
  | _ => none }
def coreSteadyRow : OpenClaim := { program := "ythmhehehomieiaagreat", sum := "649ee37b6f32f67932666242ccb859c4811193956fb89fb249a9a545f1366b1a", func := "tilth/tilthlaw13.CoreSteady", spec := "coreSteady", unfollowed := true, recurses := true, apart := false }
def CoreSteadySaid : Prop := coreSteadyRow.holds Tryz.pinned (OpenSpec.ofChange coreSteadySpec)

/-- ITS FALSE NEIGHBOUR: 'it returns false'. Refute it at one input. -/
def coreSteadyWrong : ChangeSpec := { name := "coreSteady", fn := fun _ => fun
  | [d1, d2, d3, d4, d5] => { results := [.lit (.bool false)], args := [d1, d2, d3, d4, d5] }
  | _ => none }
def CoreSteadyWrongFalsely : Prop := coreSteadyRow.holds Tryz.pinned (OpenSpec.ofChange coreSteadyWrong)

/-- 'tilthlaw13.CoreFields': WHATEVER THE INPUT: true; the input reads as it did. -/
def coreFieldsSpec : ChangeSpec := { name := "coreFields", fn := fun _ => fun
  | [d1, d2, d3, d4, d5, d6, d7] => { results := [.lit (.bool true)], args := [d1, d2, d3, d4, d5, d6, d7] }
  | _ => none }
def coreFieldsRow : OpenClaim := { program := "ythmhehehomieiaagreat", sum := "649ee37b6f32f67932666242ccb859c4811193956fb89fb249a9a545f1366b1a", func := "tilth/tilthlaw13.CoreFields", spec := "coreFields", unfollowed := true, recurses := true, apart := false }
def CoreFieldsSaid : Prop := coreFieldsRow.holds Tryz.pinned (OpenSpec.ofChange coreFieldsSpec)

/-- ITS FALSE NEIGHBOUR: 'it returns false'. Refute it at one input. -/
def coreFieldsWrong : ChangeSpec := { name := "coreFields", fn := fun _ => fun
  | [d1, d2, d3, d4, d5, d6, d7] => { results := [.lit (.bool false)], args := [d1, d2, d3, d4, d5, d6, d7] }
  | _ => none }
def CoreFieldsWrongFalsely : Prop := coreFieldsRow.holds Tryz.pinned (OpenSpec.ofChange coreFieldsWrong)

/-- 'tilthlaw13.CoreCopies': WHATEVER THE INPUT: true; the input reads as it did. -/
def coreCopiesSpec : ChangeSpec := { name := "coreCopies", fn := fun _ => fun
  | [d1, d2, d3, d4, d5] => { results := [.lit (.bool true)], args := [d1, d2, d3, d4, d5] }
  | _ => none }
def coreCopiesRow : OpenClaim := { program := "ythmhehehomieiaagreat", sum := "649ee37b6f32f67932666242ccb859c4811193956fb89fb249a9a545f1366b1a", func := "tilth/tilthlaw13.CoreCopies", spec := "coreCopies", unfollowed := true, recurses := true, apart := false }
def CoreCopiesSaid : Prop := coreCopiesRow.holds Tryz.pinned (OpenSpec.ofChange coreCopiesSpec)

/-- ITS FALSE NEIGHBOUR: 'it returns false'. Refute it at one input. -/
def coreCopiesWrong : ChangeSpec := { name := "coreCopies", fn := fun _ => fun
  | [d1, d2, d3, d4, d5] => { results := [.lit (.bool false)], args := [d1, d2, d3, d4, d5] }
  | _ => none }
def CoreCopiesWrongFalsely : Prop := coreCopiesRow.holds Tryz.pinned (OpenSpec.ofChange coreCopiesWrong)

/-- 'tilthlaw14.MinorKeeps': WHATEVER THE INPUT: true; the input reads as it did. -/
def minorKeepsSpec : ChangeSpec := { name := "minorKeeps", fn := fun _ => fun
  | [d1, d2, d3, d4, d5] => { results := [.lit (.bool true)], args := [d1, d2, d3, d4, d5] }
  | _ => none }
def minorKeepsRow : OpenClaim := { program := "ythmhehehomieiaagreat", sum := "649ee37b6f32f67932666242ccb859c4811193956fb89fb249a9a545f1366b1a", func := "tilth/tilthlaw14.MinorKeeps", spec := "minorKeeps", unfollowed := true, recurses := true, apart := false }
def MinorKeepsSaid : Prop := minorKeepsRow.holds Tryz.pinned (OpenSpec.ofChange minorKeepsSpec)

/-- ITS FALSE NEIGHBOUR: 'it returns false'. Refute it at one input. -/
def minorKeepsWrong : ChangeSpec := { name := "minorKeeps", fn := fun _ => fun
  | [d1, d2, d3, d4, d5] => { results := [.lit (.bool false)], args := [d1, d2, d3, d4, d5] }
  | _ => none }
def MinorKeepsWrongFalsely : Prop := minorKeepsRow.holds Tryz.pinned (OpenSpec.ofChange minorKeepsWrong)

/-- 'tilthlaw14.MinorEnds': WHATEVER THE INPUT: true; the input reads as it did. -/
def minorEndsSpec : ChangeSpec := { name := "minorEnds", fn := fun _ => fun
  | [d1, d2, d3, d4, d5] => { results := [.lit (.bool true)], args := [d1, d2, d3, d4, d5] }
  | _ => none }
def minorEndsRow : OpenClaim := { program := "ythmhehehomieiaagreat", sum := "649ee37b6f32f67932666242ccb859c4811193956fb89fb249a9a545f1366b1a", func := "tilth/tilthlaw14.MinorEnds", spec := "minorEnds", unfollowed := true, recurses := true, apart := false }
def MinorEndsSaid : Prop := minorEndsRow.holds Tryz.pinned (OpenSpec.ofChange minorEndsSpec)

/-- ITS FALSE NEIGHBOUR: 'it returns false'. Refute it at one input. -/
def minorEndsWrong : ChangeSpec := { name := "minorEnds", fn := fun _ => fun
  | [d1, d2, d3, d4, d5] => { results := [.lit (.bool false)], args := [d1, d2, d3, d4, d5] }
  | _ => none }
def MinorEndsWrongFalsely : Prop := minorEndsRow.holds Tryz.pinned (OpenSpec.ofChange minorEndsWrong)

/-- 'tilthlaw14.MinorFrees': WHATEVER THE INPUT: true; the input reads as it did. -/
def minorFreesSpec : ChangeSpec := { name := "minorFrees", fn := fun _ => fun
  | [d1, d2, d3, d4, d5, d6] => { results := [.lit (.bool true)], args := [d1, d2, d3, d4, d5, d6] }
  | _ => none }
def minorFreesRow : OpenClaim := { program := "ythmhehehomieiaagreat", sum := "649ee37b6f32f67932666242ccb859c4811193956fb89fb249a9a545f1366b1a", func := "tilth/tilthlaw14.MinorFrees", spec := "minorFrees", unfollowed := true, recurses := true, apart := false }
def MinorFreesSaid : Prop := minorFreesRow.holds Tryz.pinned (OpenSpec.ofChange minorFreesSpec)

/-- ITS FALSE NEIGHBOUR: 'it returns false'. Refute it at one input. -/
def minorFreesWrong : ChangeSpec := { name := "minorFrees", fn := fun _ => fun
  | [d1, d2, d3, d4, d5, d6] => { results := [.lit (.bool false)], args := [d1, d2, d3, d4, d5, d6] }
  | _ => none }
def MinorFreesWrongFalsely : Prop := minorFreesRow.holds Tryz.pinned (OpenSpec.ofChange minorFreesWrong)

/-- 'tilthlaw14.MinorGrows': WHATEVER THE INPUT: true; the input reads as it did. -/
def minorGrowsSpec : ChangeSpec := { name := "minorGrows", fn := fun _ => fun
  | [d1, d2, d3, d4, d5] => { results := [.lit (.bool true)], args := [d1, d2, d3, d4, d5] }
  | _ => none }
def minorGrowsRow : OpenClaim := { program := "ythmhehehomieiaagreat", sum := "649ee37b6f32f67932666242ccb859c4811193956fb89fb249a9a545f1366b1a", func := "tilth/tilthlaw14.MinorGrows", spec := "minorGrows", unfollowed := true, recurses := true, apart := false }
def MinorGrowsSaid : Prop := minorGrowsRow.holds Tryz.pinned (OpenSpec.ofChange minorGrowsSpec)

/-- ITS FALSE NEIGHBOUR: 'it returns false'. Refute it at one input. -/
def minorGrowsWrong : ChangeSpec := { name := "minorGrows", fn := fun _ => fun
  | [d1, d2, d3, d4, d5] => { results := [.lit (.bool false)], args := [d1, d2, d3, d4, d5] }
  | _ => none }
def MinorGrowsWrongFalsely : Prop := minorGrowsRow.holds Tryz.pinned (OpenSpec.ofChange minorGrowsWrong)

/-- 'tilthlaw14.MinorRuns': WHATEVER THE INPUT: true; the input reads as it did. -/
def minorRunsSpec : ChangeSpec := { name := "minorRuns", fn := fun _ => fun
  | [d1, d2, d3, d4, d5, d6] => { results := [.lit (.bool true)], args := [d1, d2, d3, d4, d5, d6] }
  | _ => none }
def minorRunsRow : OpenClaim := { program := "ythmhehehomieiaagreat", sum := "649ee37b6f32f67932666242ccb859c4811193956fb89fb249a9a545f1366b1a", func := "tilth/tilthlaw14.MinorRuns", spec := "minorRuns", unfollowed := true, recurses := true, apart := false }
def MinorRunsSaid : Prop := minorRunsRow.holds Tryz.pinned (OpenSpec.ofChange minorRunsSpec)

/-- ITS FALSE NEIGHBOUR: 'it returns false'. Refute it at one input. -/
def minorRunsWrong : ChangeSpec := { name := "minorRuns", fn := fun _ => fun
  | [d1, d2, d3, d4, d5, d6] => { results := [.lit (.bool false)], args := [d1, d2, d3, d4, d5, d6] }
  | _ => none }
def MinorRunsWrongFalsely : Prop := minorRunsRow.holds Tryz.pinned (OpenSpec.ofChange minorRunsWrong)

/-- 'tilthlaw14.MinorHandles': WHATEVER THE INPUT: true; the input reads as it did. -/
def minorHandlesSpec : ChangeSpec := { name := "minorHandles", fn := fun _ => fun
  | [d1, d2, d3, d4, d5] => { results := [.lit (.bool true)], args := [d1, d2, d3, d4, d5] }
  | _ => none }
def minorHandlesRow : OpenClaim := { program := "ythmhehehomieiaagreat", sum := "649ee37b6f32f67932666242ccb859c4811193956fb89fb249a9a545f1366b1a", func := "tilth/tilthlaw14.MinorHandles", spec := "minorHandles", unfollowed := true, recurses := true, apart := false }
def MinorHandlesSaid : Prop := minorHandlesRow.holds Tryz.pinned (OpenSpec.ofChange minorHandlesSpec)

/-- ITS FALSE NEIGHBOUR: 'it returns false'. Refute it at one input. -/
def minorHandlesWrong : ChangeSpec := { name := "minorHandles", fn := fun _ => fun
  | [d1, d2, d3, d4, d5] => { results := [.lit (.bool false)], args := [d1, d2, d3, d4, d5] }
  | _ => none }
def MinorHandlesWrongFalsely : Prop := minorHandlesRow.holds Tryz.pinned (OpenSpec.ofChange minorHandlesWrong)

/- THE SECOND FORM. 'bulk': how many values and letters a reading holds, each counted each time it is reached (what is shared counts as often as it is met; a slice's spare places count too). A statement '..UptoSaid' is the law's where the arguments, and the package variables that the reading takes, are together of bulk at most 1048576: NARROWER than '..Said'. Prove '..Said' where nothing that the law and all that it calls make is longer than what came in: it says more and counts as full. Else prove '..UptoSaid'. A law counts once. -/
mutual
def uptoBulk {H : Type} : DataW H → Nat
  | .lit (.string bytes) => bytes.length + 1
  | .lit _ => 1
  | .nil => 1
  | .ptr d => uptoBulk d + 1
  | .slice elems spare => uptoBulkAll elems + uptoBulkAll spare + 1
  | .agg parts => uptoBulkAll parts + 1
  | .iface _ d => uptoBulk d + 1
  | .map entries => uptoBulkEntries entries + 1
  | .held _ => 1
def uptoBulkAll {H : Type} : List (DataW H) → Nat
  | [] => 0
  | d :: r => uptoBulk d + uptoBulkAll r
def uptoBulkEntries {H : Type} : List (Lit × DataW H) → Nat
  | [] => 0
  | x :: r => uptoBulkEntry x + uptoBulkEntries r
def uptoBulkEntry {H : Type} : Lit × DataW H → Nat
  | (.string bytes, d) => bytes.length + uptoBulk d + 1
  | (_, d) => uptoBulk d + 1
 end
def uptoSmall : (H : Type) → List (DataW H) → Bool := fun _ ds => decide (uptoBulkAll ds ≤ 1048576)
def OpenSpec.upto (s : _root_.Go.ChangeSpec) : _root_.Go.OpenSpec := { _root_.Go.OpenSpec.ofChange s with cond := some uptoSmall }

/-- 'tilthlaw13.CoreNews', WHERE WHAT IT READS IS OF BULK AT MOST 1048576: true; the input reads as it did. -/
def coreNewsUptoRow : OpenClaim := { program := "ythmhehehomieiaagreat", sum := "649ee37b6f32f67932666242ccb859c4811193956fb89fb249a9a545f1366b1a", func := "tilth/tilthlaw13.CoreNews", spec := "coreNews", unfollowed := true, recurses := true, apart := false, narrowed := true }
def CoreNewsUptoSaid : Prop := coreNewsUptoRow.holds Tryz.pinned (OpenSpec.upto coreNewsSpec)

/-- 'tilthlaw13.CorePlays', WHERE WHAT IT READS IS OF BULK AT MOST 1048576: true; the input reads as it did. -/
def corePlaysUptoRow : OpenClaim := { program := "ythmhehehomieiaagreat", sum := "649ee37b6f32f67932666242ccb859c4811193956fb89fb249a9a545f1366b1a", func := "tilth/tilthlaw13.CorePlays", spec := "corePlays", unfollowed := true, recurses := true, apart := false, narrowed := true }
def CorePlaysUptoSaid : Prop := corePlaysUptoRow.holds Tryz.pinned (OpenSpec.upto corePlaysSpec)

/-- 'tilthlaw13.CoreErrors', WHERE WHAT IT READS IS OF BULK AT MOST 1048576: true; the input reads as it did. -/
def coreErrorsUptoRow : OpenClaim := { program := "ythmhehehomieiaagreat", sum := "649ee37b6f32f67932666242ccb859c4811193956fb89fb249a9a545f1366b1a", func := "tilth/tilthlaw13.CoreErrors", spec := "coreErrors", unfollowed := true, recurses := true, apart := false, narrowed := true }
def CoreErrorsUptoSaid : Prop := coreErrorsUptoRow.holds Tryz.pinned (OpenSpec.upto coreErrorsSpec)

/-- 'tilthlaw13.CoreNone', WHERE WHAT IT READS IS OF BULK AT MOST 1048576: true; the input reads as it did. -/
def coreNoneUptoRow : OpenClaim := { program := "ythmhehehomieiaagreat", sum := "649ee37b6f32f67932666242ccb859c4811193956fb89fb249a9a545f1366b1a", func := "tilth/tilthlaw13.CoreNone", spec := "coreNone", unfollowed := true, recurses := true, apart := false, narrowed := true }
def CoreNoneUptoSaid : Prop := coreNoneUptoRow.holds Tryz.pinned (OpenSpec.upto coreNoneSpec)

/-- 'tilthlaw13.CoreFresh', WHERE WHAT IT READS IS OF BULK AT MOST 1048576: true; the input reads as it did. -/
def coreFreshUptoRow : OpenClaim := { program := "ythmhehehomieiaagreat", sum := "649ee37b6f32f67932666242ccb859c4811193956fb89fb249a9a545f1366b1a", func := "tilth/tilthlaw13.CoreFresh", spec := "coreFresh", unfollowed := true, recurses := true, apart := false, narrowed := true }
def CoreFreshUptoSaid : Prop := coreFreshUptoRow.holds Tryz.pinned (OpenSpec.upto coreFreshSpec)

/-- 'tilthlaw13.CoreSteady', WHERE WHAT IT READS IS OF BULK AT MOST 1048576: true; the input reads as it did. -/
def coreSteadyUptoRow : OpenClaim := { program := "ythmhehehomieiaagreat", sum := "649ee37b6f32f67932666242ccb859c4811193956fb89fb249a9a545f1366b1a", func := "tilth/tilthlaw13.CoreSteady", spec := "coreSteady", unfollowed := true, recurses := true, apart := false, narrowed := true }
def CoreSteadyUptoSaid : Prop := coreSteadyUptoRow.holds Tryz.pinned (OpenSpec.upto coreSteadySpec)

/-- 'tilthlaw13.CoreFields', WHERE WHAT IT READS IS OF BULK AT MOST 1048576: true; the input reads as it did. -/
def coreFieldsUptoRow : OpenClaim := { program := "ythmhehehomieiaagreat", sum := "649ee37b6f32f67932666242ccb859c4811193956fb89fb249a9a545f1366b1a", func := "tilth/tilthlaw13.CoreFields", spec := "coreFields", unfollowed := true, recurses := true, apart := false, narrowed := true }
def CoreFieldsUptoSaid : Prop := coreFieldsUptoRow.holds Tryz.pinned (OpenSpec.upto coreFieldsSpec)

/-- 'tilthlaw13.CoreCopies', WHERE WHAT IT READS IS OF BULK AT MOST 1048576: true; the input reads as it did. -/
def coreCopiesUptoRow : OpenClaim := { program := "ythmhehehomieiaagreat", sum := "649ee37b6f32f67932666242ccb859c4811193956fb89fb249a9a545f1366b1a", func := "tilth/tilthlaw13.CoreCopies", spec := "coreCopies", unfollowed := true, recurses := true, apart := false, narrowed := true }
def CoreCopiesUptoSaid : Prop := coreCopiesUptoRow.holds Tryz.pinned (OpenSpec.upto coreCopiesSpec)

/-- 'tilthlaw14.MinorKeeps', WHERE WHAT IT READS IS OF BULK AT MOST 1048576: true; the input reads as it did. -/
def minorKeepsUptoRow : OpenClaim := { program := "ythmhehehomieiaagreat", sum := "649ee37b6f32f67932666242ccb859c4811193956fb89fb249a9a545f1366b1a", func := "tilth/tilthlaw14.MinorKeeps", spec := "minorKeeps", unfollowed := true, recurses := true, apart := false, narrowed := true }
def MinorKeepsUptoSaid : Prop := minorKeepsUptoRow.holds Tryz.pinned (OpenSpec.upto minorKeepsSpec)

/-- 'tilthlaw14.MinorEnds', WHERE WHAT IT READS IS OF BULK AT MOST 1048576: true; the input reads as it did. -/
def minorEndsUptoRow : OpenClaim := { program := "ythmhehehomieiaagreat", sum := "649ee37b6f32f67932666242ccb859c4811193956fb89fb249a9a545f1366b1a", func := "tilth/tilthlaw14.MinorEnds", spec := "minorEnds", unfollowed := true, recurses := true, apart := false, narrowed := true }
def MinorEndsUptoSaid : Prop := minorEndsUptoRow.holds Tryz.pinned (OpenSpec.upto minorEndsSpec)

/-- 'tilthlaw14.MinorFrees', WHERE WHAT IT READS IS OF BULK AT MOST 1048576: true; the input reads as it did. -/
def minorFreesUptoRow : OpenClaim := { program := "ythmhehehomieiaagreat", sum := "649ee37b6f32f67932666242ccb859c4811193956fb89fb249a9a545f1366b1a", func := "tilth/tilthlaw14.MinorFrees", spec := "minorFrees", unfollowed := true, recurses := true, apart := false, narrowed := true }
def MinorFreesUptoSaid : Prop := minorFreesUptoRow.holds Tryz.pinned (OpenSpec.upto minorFreesSpec)

/-- 'tilthlaw14.MinorGrows', WHERE WHAT IT READS IS OF BULK AT MOST 1048576: true; the input reads as it did. -/
def minorGrowsUptoRow : OpenClaim := { program := "ythmhehehomieiaagreat", sum := "649ee37b6f32f67932666242ccb859c4811193956fb89fb249a9a545f1366b1a", func := "tilth/tilthlaw14.MinorGrows", spec := "minorGrows", unfollowed := true, recurses := true, apart := false, narrowed := true }
def MinorGrowsUptoSaid : Prop := minorGrowsUptoRow.holds Tryz.pinned (OpenSpec.upto minorGrowsSpec)

/-- 'tilthlaw14.MinorRuns', WHERE WHAT IT READS IS OF BULK AT MOST 1048576: true; the input reads as it did. -/
def minorRunsUptoRow : OpenClaim := { program := "ythmhehehomieiaagreat", sum := "649ee37b6f32f67932666242ccb859c4811193956fb89fb249a9a545f1366b1a", func := "tilth/tilthlaw14.MinorRuns", spec := "minorRuns", unfollowed := true, recurses := true, apart := false, narrowed := true }
def MinorRunsUptoSaid : Prop := minorRunsUptoRow.holds Tryz.pinned (OpenSpec.upto minorRunsSpec)

/-- 'tilthlaw14.MinorHandles', WHERE WHAT IT READS IS OF BULK AT MOST 1048576: true; the input reads as it did. -/
def minorHandlesUptoRow : OpenClaim := { program := "ythmhehehomieiaagreat", sum := "649ee37b6f32f67932666242ccb859c4811193956fb89fb249a9a545f1366b1a", func := "tilth/tilthlaw14.MinorHandles", spec := "minorHandles", unfollowed := true, recurses := true, apart := false, narrowed := true }
def MinorHandlesUptoSaid : Prop := minorHandlesUptoRow.holds Tryz.pinned (OpenSpec.upto minorHandlesSpec)

end Rows
end Go.Proofs.YthmhehehomieiaaGreat
