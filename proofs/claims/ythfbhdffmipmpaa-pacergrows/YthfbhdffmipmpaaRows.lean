/-
  No cell of these rows narrows 'for every input' (looked for: loops, veiled, ifaces, maps, wideKeys, modest, calm, conditions, laid).
  DERIVED. THE GIVEN ROWS OF THIS SEAT. 3 by the template 'for every input the law returns true; each argument reads behind the call as it read before'; 0 by the template 'total and deterministic' (their statements: YthfbhdffmipmpaaTotals.lean).
  GIVEN WITH THE SEED: the statements are not yours to turn. If you find one false, say at which input.
  Laid BY PROGRAM, IN A SANDBOX (cutbox-rows.mjs): the forced cells as the released guide's own fill.sh prints them over the translation d1fc61c829655a3d… (all of the seat's roots in one cut). By AI agents, Wed Nov 11 2026. No macro, syntax, notation, axiom, sorry.
-/
import Derived.Test.YthfbhdffmipmpaaChecked
import GoSem.Claim
import GoSem.ClaimJoined
import GoSem.ClaimMapViews
import Derived.JoinedTies
import Derived.KernelRfl
namespace Go.Proofs.Ythfbhdffmipmpaa
/- THE CELL 'sum', in the pinned program and in every row, IS THE sha256 OF THE DUMP (.gsa) THAT YthfbhdffmipmpaaProg.lean LOADS. Nothing in Lean hashes anything: it is a label: what it is worth is what the hold of that sum in a sandbox is worth. -/
noncomputable def Try.pinned : Pinned := { name := "ythfbhdffmipmpaa", sum := "d1fc61c829655a3d30afd858b0e53c64c0c8ca26013a2e390d97f7b395dec773", checked := Try.checked }
namespace Rows
def none {H : Type} : Left H := { results := [], args := [] }

/-- 'tilthlaw16.PacerTells': WHATEVER THE INPUT: true; the input reads as it did. -/
def pacerTellsSpec : ChangeSpec := { name := "pacerTells", fn := fun _ => fun
  | [d1, d2, d3, d4, d5] => { results := [.lit (.bool true)], args := [d1, d2, d3, d4, d5] }
  | _ => none }
def pacerTellsRow : OpenClaim := { program := "ythfbhdffmipmpaa", sum := "d1fc61c829655a3d30afd858b0e53c64c0c8ca26013a2e390d97f7b395dec773", func := "tilth/tilthlaw16.PacerTells", spec := "pacerTells", apart := false }
def PacerTellsSaid : Prop := pacerTellsRow.holds Try.pinned (OpenSpec.ofChange pacerTellsSpec)

/-- ITS FALSE NEIGHBOUR: 'it returns false'. Refute it at one input. -/
def pacerTellsWrong : ChangeSpec := { name := "pacerTells", fn := fun _ => fun
  | [d1, d2, d3, d4, d5] => { results := [.lit (.bool false)], args := [d1, d2, d3, d4, d5] }
  | _ => none }
def PacerTellsWrongFalsely : Prop := pacerTellsRow.holds Try.pinned (OpenSpec.ofChange pacerTellsWrong)

/-- 'tilthlaw16.PacerGrows': WHATEVER THE INPUT: true; the input reads as it did. -/
def pacerGrowsSpec : ChangeSpec := { name := "pacerGrows", fn := fun _ => fun
  | [d1, d2, d3, d4, d5, d6, d7] => { results := [.lit (.bool true)], args := [d1, d2, d3, d4, d5, d6, d7] }
  | _ => none }
def pacerGrowsRow : OpenClaim := { program := "ythfbhdffmipmpaa", sum := "d1fc61c829655a3d30afd858b0e53c64c0c8ca26013a2e390d97f7b395dec773", func := "tilth/tilthlaw16.PacerGrows", spec := "pacerGrows", apart := false }
def PacerGrowsSaid : Prop := pacerGrowsRow.holds Try.pinned (OpenSpec.ofChange pacerGrowsSpec)

/-- ITS FALSE NEIGHBOUR: 'it returns false'. Refute it at one input. -/
def pacerGrowsWrong : ChangeSpec := { name := "pacerGrows", fn := fun _ => fun
  | [d1, d2, d3, d4, d5, d6, d7] => { results := [.lit (.bool false)], args := [d1, d2, d3, d4, d5, d6, d7] }
  | _ => none }
def PacerGrowsWrongFalsely : Prop := pacerGrowsRow.holds Try.pinned (OpenSpec.ofChange pacerGrowsWrong)

/-- 'tilthlaw16.PacerEnds': WHATEVER THE INPUT: true; the input reads as it did. -/
def pacerEndsSpec : ChangeSpec := { name := "pacerEnds", fn := fun _ => fun
  | [d1, d2, d3] => { results := [.lit (.bool true)], args := [d1, d2, d3] }
  | _ => none }
def pacerEndsRow : OpenClaim := { program := "ythfbhdffmipmpaa", sum := "d1fc61c829655a3d30afd858b0e53c64c0c8ca26013a2e390d97f7b395dec773", func := "tilth/tilthlaw16.PacerEnds", spec := "pacerEnds", apart := false }
def PacerEndsSaid : Prop := pacerEndsRow.holds Try.pinned (OpenSpec.ofChange pacerEndsSpec)

/-- ITS FALSE NEIGHBOUR: 'it returns false'. Refute it at one input. -/
def pacerEndsWrong : ChangeSpec := { name := "pacerEnds", fn := fun _ => fun
  | [d1, d2, d3] => { results := [.lit (.bool false)], args := [d1, d2, d3] }
  | _ => none }
def PacerEndsWrongFalsely : Prop := pacerEndsRow.holds Try.pinned (OpenSpec.ofChange pacerEndsWrong)

/- THE SECOND FORM. 'bulk': how many values and letters a reading holds, each counted each time it is reached (what is shared counts as often as it is met; a slice's spare places count too). A statement '..UptoSaid' is the law's where the arguments, and the package variables that the reading takes, are together of bulk at most 1048576: NARROWER than '..Said'. Prove '..Said' where nothing that the law and all that it calls make is longer than what came in: it says more and counts as full. Else prove '..UptoSaid'. A law counts once. -/
mutual
def uptoBulk {H : Type} : DataW H → Nat
  | .lit (.string bytes) => bytes.length + 1
  | .lit _ => 1
  | .nil => 1
  | .ptr d => uptoBulk d + 1
  | .slice elems spare => uptoBulkAll elems + uptoBulkAll spare + 1
  | .agg parts => uptoBulkAll parts + 1
  | .iface _ d => uptoBulk d + 1
  | .map entries => uptoBulkEntries entries + 1
  | .held _ => 1
def uptoBulkAll {H : Type} : List (DataW H) → Nat
  | [] => 0
  | d :: r => uptoBulk d + uptoBulkAll r
def uptoBulkEntries {H : Type} : List (Lit × DataW H) → Nat
  | [] => 0
  | x :: r => uptoBulkEntry x + uptoBulkEntries r
def uptoBulkEntry {H : Type} : Lit × DataW H → Nat
  | (.string bytes, d) => bytes.length + uptoBulk d + 1
  | (_, d) => uptoBulk d + 1
 end
def uptoSmall : (H : Type) → List (DataW H) → Bool := fun _ ds => decide (uptoBulkAll ds ≤ 1048576)
def OpenSpec.upto (s : _root_.Go.ChangeSpec) : _root_.Go.OpenSpec := { _root_.Go.OpenSpec.ofChange s with cond := some uptoSmall }

/-- 'tilthlaw16.PacerTells', WHERE WHAT IT READS IS OF BULK AT MOST 1048576: true; the input reads as it did. -/
def pacerTellsUptoRow : OpenClaim := { program := "ythfbhdffmipmpaa", sum := "d1fc61c829655a3d30afd858b0e53c64c0c8ca26013a2e390d97f7b395dec773", func := "tilth/tilthlaw16.PacerTells", spec := "pacerTells", apart := false, narrowed := true }
def PacerTellsUptoSaid : Prop := pacerTellsUptoRow.holds Try.pinned (OpenSpec.upto pacerTellsSpec)

/-- 'tilthlaw16.PacerGrows', WHERE WHAT IT READS IS OF BULK AT MOST 1048576: true; the input reads as it did. -/
def pacerGrowsUptoRow : OpenClaim := { program := "ythfbhdffmipmpaa", sum := "d1fc61c829655a3d30afd858b0e53c64c0c8ca26013a2e390d97f7b395dec773", func := "tilth/tilthlaw16.PacerGrows", spec := "pacerGrows", apart := false, narrowed := true }
def PacerGrowsUptoSaid : Prop := pacerGrowsUptoRow.holds Try.pinned (OpenSpec.upto pacerGrowsSpec)

/-- 'tilthlaw16.PacerEnds', WHERE WHAT IT READS IS OF BULK AT MOST 1048576: true; the input reads as it did. -/
def pacerEndsUptoRow : OpenClaim := { program := "ythfbhdffmipmpaa", sum := "d1fc61c829655a3d30afd858b0e53c64c0c8ca26013a2e390d97f7b395dec773", func := "tilth/tilthlaw16.PacerEnds", spec := "pacerEnds", apart := false, narrowed := true }
def PacerEndsUptoSaid : Prop := pacerEndsUptoRow.holds Try.pinned (OpenSpec.upto pacerEndsSpec)

end Rows
end Go.Proofs.Ythfbhdffmipmpaa
