/-
  No cell of these rows narrows 'for every input' (looked for: loops, veiled, ifaces, maps, wideKeys, modest, calm, conditions, laid).
  DERIVED. THE GIVEN ROWS OF THIS SEAT. 5 by the template 'for every input the law returns true; each argument reads behind the call as it read before'; 0 by the template 'total and deterministic' (their statements: YtbpkoaojhcaahaaTotals.lean).
  GIVEN WITH THE SEED: the statements are not yours to turn. If you find one false, say at which input.
  Laid BY PROGRAM, IN A SANDBOX (cutbox-rows.mjs): the forced cells as the released guide's own fill.sh prints them over the translation 972f49940216e7f8… (all of the seat's roots in one cut). By AI agents, Wed Nov 11 2026. No macro, syntax, notation, axiom, sorry.
-/
import Derived.Test.YtbpkoaojhcaahaaChecked
import GoSem.Claim
import GoSem.ClaimJoined
import GoSem.ClaimMapViews
import Derived.JoinedTies
import Derived.KernelRfl
namespace Go.Proofs.Ytbpkoaojhcaahaa
/- THE CELL 'sum', in the pinned program and in every row, IS THE sha256 OF THE DUMP (.gsa) THAT YtbpkoaojhcaahaaProg.lean LOADS. Nothing in Lean hashes anything: it is a label: what it is worth is what the hold of that sum in a sandbox is worth. -/
noncomputable def Try.pinned : Pinned := { name := "ytbpkoaojhcaahaa", sum := "972f49940216e7f8683096270b304fc20193320323601aac2d05e54fd2a07090", checked := Try.checked }
namespace Rows
def none {H : Type} : Left H := { results := [], args := [] }

/-- 'tilthlaw06.BumpPlays': WHATEVER THE INPUT: true; the input reads as it did. -/
def bumpPlaysSpec : ChangeSpec := { name := "bumpPlays", fn := fun _ => fun
  | [d1, d2, d3] => { results := [.lit (.bool true)], args := [d1, d2, d3] }
  | _ => none }
def bumpPlaysRow : OpenClaim := { program := "ytbpkoaojhcaahaa", sum := "972f49940216e7f8683096270b304fc20193320323601aac2d05e54fd2a07090", func := "tilth/tilthlaw06.BumpPlays", spec := "bumpPlays", apart := false }
def BumpPlaysSaid : Prop := bumpPlaysRow.holds Try.pinned (OpenSpec.ofChange bumpPlaysSpec)

/-- ITS FALSE NEIGHBOUR: 'it returns false'. Refute it at one input. -/
def bumpPlaysWrong : ChangeSpec := { name := "bumpPlays", fn := fun _ => fun
  | [d1, d2, d3] => { results := [.lit (.bool false)], args := [d1, d2, d3] }
  | _ => none }
def BumpPlaysWrongFalsely : Prop := bumpPlaysRow.holds Try.pinned (OpenSpec.ofChange bumpPlaysWrong)

/-- 'tilthlaw06.BumpNone': WHATEVER THE INPUT: true; the input reads as it did. -/
def bumpNoneSpec : ChangeSpec := { name := "bumpNone", fn := fun _ => fun
  | [d] => { results := [.lit (.bool true)], args := [d] }
  | _ => none }
def bumpNoneRow : OpenClaim := { program := "ytbpkoaojhcaahaa", sum := "972f49940216e7f8683096270b304fc20193320323601aac2d05e54fd2a07090", func := "tilth/tilthlaw06.BumpNone", spec := "bumpNone", apart := false }
def BumpNoneSaid : Prop := bumpNoneRow.holds Try.pinned (OpenSpec.ofChange bumpNoneSpec)

/-- ITS FALSE NEIGHBOUR: 'it returns false'. Refute it at one input. -/
def bumpNoneWrong : ChangeSpec := { name := "bumpNone", fn := fun _ => fun
  | [d] => { results := [.lit (.bool false)], args := [d] }
  | _ => none }
def BumpNoneWrongFalsely : Prop := bumpNoneRow.holds Try.pinned (OpenSpec.ofChange bumpNoneWrong)

/-- 'tilthlaw06.BumpRows': WHATEVER THE INPUT: true; the input reads as it did. -/
def bumpRowsSpec : ChangeSpec := { name := "bumpRows", fn := fun _ => fun
  | [d1, d2] => { results := [.lit (.bool true)], args := [d1, d2] }
  | _ => none }
def bumpRowsRow : OpenClaim := { program := "ytbpkoaojhcaahaa", sum := "972f49940216e7f8683096270b304fc20193320323601aac2d05e54fd2a07090", func := "tilth/tilthlaw06.BumpRows", spec := "bumpRows", apart := false }
def BumpRowsSaid : Prop := bumpRowsRow.holds Try.pinned (OpenSpec.ofChange bumpRowsSpec)

/-- ITS FALSE NEIGHBOUR: 'it returns false'. Refute it at one input. -/
def bumpRowsWrong : ChangeSpec := { name := "bumpRows", fn := fun _ => fun
  | [d1, d2] => { results := [.lit (.bool false)], args := [d1, d2] }
  | _ => none }
def BumpRowsWrongFalsely : Prop := bumpRowsRow.holds Try.pinned (OpenSpec.ofChange bumpRowsWrong)

/-- 'tilthlaw06.BumpTurns': WHATEVER THE INPUT: true; the input reads as it did. -/
def bumpTurnsSpec : ChangeSpec := { name := "bumpTurns", fn := fun _ => fun
  | [d1, d2] => { results := [.lit (.bool true)], args := [d1, d2] }
  | _ => none }
def bumpTurnsRow : OpenClaim := { program := "ytbpkoaojhcaahaa", sum := "972f49940216e7f8683096270b304fc20193320323601aac2d05e54fd2a07090", func := "tilth/tilthlaw06.BumpTurns", spec := "bumpTurns", apart := false }
def BumpTurnsSaid : Prop := bumpTurnsRow.holds Try.pinned (OpenSpec.ofChange bumpTurnsSpec)

/-- ITS FALSE NEIGHBOUR: 'it returns false'. Refute it at one input. -/
def bumpTurnsWrong : ChangeSpec := { name := "bumpTurns", fn := fun _ => fun
  | [d1, d2] => { results := [.lit (.bool false)], args := [d1, d2] }
  | _ => none }
def BumpTurnsWrongFalsely : Prop := bumpTurnsRow.holds Try.pinned (OpenSpec.ofChange bumpTurnsWrong)

/-- 'tilthlaw06.BumpWords': WHATEVER THE INPUT: true; the input reads as it did. -/
def bumpWordsSpec : ChangeSpec := { name := "bumpWords", fn := fun _ => fun
  | [d1, d2, d3] => { results := [.lit (.bool true)], args := [d1, d2, d3] }
  | _ => none }
def bumpWordsRow : OpenClaim := { program := "ytbpkoaojhcaahaa", sum := "972f49940216e7f8683096270b304fc20193320323601aac2d05e54fd2a07090", func := "tilth/tilthlaw06.BumpWords", spec := "bumpWords", apart := false }
def BumpWordsSaid : Prop := bumpWordsRow.holds Try.pinned (OpenSpec.ofChange bumpWordsSpec)

/-- ITS FALSE NEIGHBOUR: 'it returns false'. Refute it at one input. -/
def bumpWordsWrong : ChangeSpec := { name := "bumpWords", fn := fun _ => fun
  | [d1, d2, d3] => { results := [.lit (.bool false)], args := [d1, d2, d3] }
  | _ => none }
def BumpWordsWrongFalsely : Prop := bumpWordsRow.holds Try.pinned (OpenSpec.ofChange bumpWordsWrong)

/- THE SECOND FORM. 'bulk': how many values and letters a reading holds, each counted each time it is reached (what is shared counts as often as it is met; a slice's spare places count too). A statement '..UptoSaid' is the law's where the arguments, and the package variables that the reading takes, are together of bulk at most 1048576: NARROWER than '..Said'. Prove '..Said' where nothing that the law and all that it calls make is longer than what came in: it says more and counts as full. Else prove '..UptoSaid'. A law counts once. -/
mutual
def uptoBulk {H : Type} : DataW H → Nat
  | .lit (.string bytes) => bytes.length + 1
  | .lit _ => 1
  | .nil => 1
  | .ptr d => uptoBulk d + 1
  | .slice elems spare => uptoBulkAll elems + uptoBulkAll spare + 1
  | .agg parts => uptoBulkAll parts + 1
  | .iface _ d => uptoBulk d + 1
  | .map entries => uptoBulkEntries entries + 1
  | .held _ => 1
def uptoBulkAll {H : Type} : List (DataW H) → Nat
  | [] => 0
  | d :: r => uptoBulk d + uptoBulkAll r
def uptoBulkEntries {H : Type} : List (Lit × DataW H) → Nat
  | [] => 0
  | x :: r => uptoBulkEntry x + uptoBulkEntries r
def uptoBulkEntry {H : Type} : Lit × DataW H → Nat
  | (.string bytes, d) => bytes.length + uptoBulk d + 1
  | (_, d) => uptoBulk d + 1
 end
def uptoSmall : (H : Type) → List (DataW H) → Bool := fun _ ds => decide (uptoBulkAll ds ≤ 1048576)
def OpenSpec.upto (s : _root_.Go.ChangeSpec) : _root_.Go.OpenSpec := { _root_.Go.OpenSpec.ofChange s with cond := some uptoSmall }

/-- 'tilthlaw06.BumpPlays', WHERE WHAT IT READS IS OF BULK AT MOST 1048576: true; the input reads as it did. -/
def bumpPlaysUptoRow : OpenClaim := { program := "ytbpkoaojhcaahaa", sum := "972f49940216e7f8683096270b304fc20193320323601aac2d05e54fd2a07090", func := "tilth/tilthlaw06.BumpPlays", spec := "bumpPlays", apart := false, narrowed := true }
def BumpPlaysUptoSaid : Prop := bumpPlaysUptoRow.holds Try.pinned (OpenSpec.upto bumpPlaysSpec)

/-- 'tilthlaw06.BumpNone', WHERE WHAT IT READS IS OF BULK AT MOST 1048576: true; the input reads as it did. -/
def bumpNoneUptoRow : OpenClaim := { program := "ytbpkoaojhcaahaa", sum := "972f49940216e7f8683096270b304fc20193320323601aac2d05e54fd2a07090", func := "tilth/tilthlaw06.BumpNone", spec := "bumpNone", apart := false, narrowed := true }
def BumpNoneUptoSaid : Prop := bumpNoneUptoRow.holds Try.pinned (OpenSpec.upto bumpNoneSpec)

/-- 'tilthlaw06.BumpRows', WHERE WHAT IT READS IS OF BULK AT MOST 1048576: true; the input reads as it did. -/
def bumpRowsUptoRow : OpenClaim := { program := "ytbpkoaojhcaahaa", sum := "972f49940216e7f8683096270b304fc20193320323601aac2d05e54fd2a07090", func := "tilth/tilthlaw06.BumpRows", spec := "bumpRows", apart := false, narrowed := true }
def BumpRowsUptoSaid : Prop := bumpRowsUptoRow.holds Try.pinned (OpenSpec.upto bumpRowsSpec)

/-- 'tilthlaw06.BumpTurns', WHERE WHAT IT READS IS OF BULK AT MOST 1048576: true; the input reads as it did. -/
def bumpTurnsUptoRow : OpenClaim := { program := "ytbpkoaojhcaahaa", sum := "972f49940216e7f8683096270b304fc20193320323601aac2d05e54fd2a07090", func := "tilth/tilthlaw06.BumpTurns", spec := "bumpTurns", apart := false, narrowed := true }
def BumpTurnsUptoSaid : Prop := bumpTurnsUptoRow.holds Try.pinned (OpenSpec.upto bumpTurnsSpec)

/-- 'tilthlaw06.BumpWords', WHERE WHAT IT READS IS OF BULK AT MOST 1048576: true; the input reads as it did. -/
def bumpWordsUptoRow : OpenClaim := { program := "ytbpkoaojhcaahaa", sum := "972f49940216e7f8683096270b304fc20193320323601aac2d05e54fd2a07090", func := "tilth/tilthlaw06.BumpWords", spec := "bumpWords", apart := false, narrowed := true }
def BumpWordsUptoSaid : Prop := bumpWordsUptoRow.holds Try.pinned (OpenSpec.upto bumpWordsSpec)

end Rows
end Go.Proofs.Ytbpkoaojhcaahaa
