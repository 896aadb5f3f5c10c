/-
  No cell of these rows narrows 'for every input' (looked for: loops, veiled, ifaces, maps, wideKeys, modest, calm, conditions, laid).
  DERIVED. THE GIVEN ROWS OF THIS SEAT. 4 by the template 'for every input the law returns true; each argument reads behind the call as it read before'; 0 by the template 'total and deterministic' (their statements: YtbfgmpbbodlgiaaTotals.lean).
  GIVEN WITH THE SEED: the statements are not yours to turn. If you find one false, say at which input.
  Laid BY PROGRAM, IN A SANDBOX (cutbox-rows.mjs): the forced cells as the released guide's own fill.sh prints them over the translation cff03823a1b23440… (all of the seat's roots in one cut). By AI agents, Wed Nov 11 2026. No macro, syntax, notation, axiom, sorry.
-/
import Derived.Test.YtbfgmpbbodlgiaaChecked
import GoSem.Claim
import GoSem.ClaimJoined
import GoSem.ClaimMapViews
import Derived.JoinedTies
import Derived.KernelRfl
namespace Go.Proofs.Ytbfgmpbbodlgiaa
/- THE CELL 'sum', in the pinned program and in every row, IS THE sha256 OF THE DUMP (.gsa) THAT YtbfgmpbbodlgiaaProg.lean LOADS. Nothing in Lean hashes anything: it is a label: what it is worth is what the hold of that sum in a sandbox is worth. -/
noncomputable def Try.pinned : Pinned := { name := "ytbfgmpbbodlgiaa", sum := "cff03823a1b2344071750add4f01389fccbcb75da31800af8816c23a0991f9e4", checked := Try.checked }
namespace Rows
def none {H : Type} : Left H := { results := [], args := [] }

/-- 'tilthlaw11.GreyPlays': WHATEVER THE INPUT: true; the input reads as it did. -/
def greyPlaysSpec : ChangeSpec := { name := "greyPlays", fn := fun _ => fun
  | [d1, d2] => { results := [.lit (.bool true)], args := [d1, d2] }
  | _ => none }
def greyPlaysRow : OpenClaim := { program := "ytbfgmpbbodlgiaa", sum := "cff03823a1b2344071750add4f01389fccbcb75da31800af8816c23a0991f9e4", func := "tilth/tilthlaw11.GreyPlays", spec := "greyPlays", apart := false }
def GreyPlaysSaid : Prop := greyPlaysRow.holds Try.pinned (OpenSpec.ofChange greyPlaysSpec)

/-- ITS FALSE NEIGHBOUR: 'it returns false'. Refute it at one input. -/
def greyPlaysWrong : ChangeSpec := { name := "greyPlays", fn := fun _ => fun
  | [d1, d2] => { results := [.lit (.bool false)], args := [d1, d2] }
  | _ => none }
def GreyPlaysWrongFalsely : Prop := greyPlaysRow.holds Try.pinned (OpenSpec.ofChange greyPlaysWrong)

/-- 'tilthlaw11.GreyNone': WHATEVER THE INPUT: true; the input reads as it did. -/
def greyNoneSpec : ChangeSpec := { name := "greyNone", fn := fun _ => fun
  | [d] => { results := [.lit (.bool true)], args := [d] }
  | _ => none }
def greyNoneRow : OpenClaim := { program := "ytbfgmpbbodlgiaa", sum := "cff03823a1b2344071750add4f01389fccbcb75da31800af8816c23a0991f9e4", func := "tilth/tilthlaw11.GreyNone", spec := "greyNone", apart := false }
def GreyNoneSaid : Prop := greyNoneRow.holds Try.pinned (OpenSpec.ofChange greyNoneSpec)

/-- ITS FALSE NEIGHBOUR: 'it returns false'. Refute it at one input. -/
def greyNoneWrong : ChangeSpec := { name := "greyNone", fn := fun _ => fun
  | [d] => { results := [.lit (.bool false)], args := [d] }
  | _ => none }
def GreyNoneWrongFalsely : Prop := greyNoneRow.holds Try.pinned (OpenSpec.ofChange greyNoneWrong)

/-- 'tilthlaw11.GreyOrder': WHATEVER THE INPUT: true; the input reads as it did. -/
def greyOrderSpec : ChangeSpec := { name := "greyOrder", fn := fun _ => fun
  | [d] => { results := [.lit (.bool true)], args := [d] }
  | _ => none }
def greyOrderRow : OpenClaim := { program := "ytbfgmpbbodlgiaa", sum := "cff03823a1b2344071750add4f01389fccbcb75da31800af8816c23a0991f9e4", func := "tilth/tilthlaw11.GreyOrder", spec := "greyOrder", apart := false }
def GreyOrderSaid : Prop := greyOrderRow.holds Try.pinned (OpenSpec.ofChange greyOrderSpec)

/-- ITS FALSE NEIGHBOUR: 'it returns false'. Refute it at one input. -/
def greyOrderWrong : ChangeSpec := { name := "greyOrder", fn := fun _ => fun
  | [d] => { results := [.lit (.bool false)], args := [d] }
  | _ => none }
def GreyOrderWrongFalsely : Prop := greyOrderRow.holds Try.pinned (OpenSpec.ofChange greyOrderWrong)

/-- 'tilthlaw11.GreyLost': WHATEVER THE INPUT: true; the input reads as it did. -/
def greyLostSpec : ChangeSpec := { name := "greyLost", fn := fun _ => fun
  | [d1, d2] => { results := [.lit (.bool true)], args := [d1, d2] }
  | _ => none }
def greyLostRow : OpenClaim := { program := "ytbfgmpbbodlgiaa", sum := "cff03823a1b2344071750add4f01389fccbcb75da31800af8816c23a0991f9e4", func := "tilth/tilthlaw11.GreyLost", spec := "greyLost", apart := false }
def GreyLostSaid : Prop := greyLostRow.holds Try.pinned (OpenSpec.ofChange greyLostSpec)

/-- ITS FALSE NEIGHBOUR: 'it returns false'. Refute it at one input. -/
def greyLostWrong : ChangeSpec := { name := "greyLost", fn := fun _ => fun
  | [d1, d2] => { results := [.lit (.bool false)], args := [d1, d2] }
  | _ => none }
def GreyLostWrongFalsely : Prop := greyLostRow.holds Try.pinned (OpenSpec.ofChange greyLostWrong)

/- THE SECOND FORM. 'bulk': how many values and letters a reading holds, each counted each time it is reached (what is shared counts as often as it is met; a slice's spare places count too). A statement '..UptoSaid' is the law's where the arguments, and the package variables that the reading takes, are together of bulk at most 1048576: NARROWER than '..Said'. Prove '..Said' where nothing that the law and all that it calls make is longer than what came in: it says more and counts as full. Else prove '..UptoSaid'. A law counts once. -/
mutual
def uptoBulk {H : Type} : DataW H → Nat
  | .lit (.string bytes) => bytes.length + 1
  | .lit _ => 1
  | .nil => 1
  | .ptr d => uptoBulk d + 1
  | .slice elems spare => uptoBulkAll elems + uptoBulkAll spare + 1
  | .agg parts => uptoBulkAll parts + 1
  | .iface _ d => uptoBulk d + 1
  | .map entries => uptoBulkEntries entries + 1
  | .held _ => 1
def uptoBulkAll {H : Type} : List (DataW H) → Nat
  | [] => 0
  | d :: r => uptoBulk d + uptoBulkAll r
def uptoBulkEntries {H : Type} : List (Lit × DataW H) → Nat
  | [] => 0
  | x :: r => uptoBulkEntry x + uptoBulkEntries r
def uptoBulkEntry {H : Type} : Lit × DataW H → Nat
  | (.string bytes, d) => bytes.length + uptoBulk d + 1
  | (_, d) => uptoBulk d + 1
 end
def uptoSmall : (H : Type) → List (DataW H) → Bool := fun _ ds => decide (uptoBulkAll ds ≤ 1048576)
def OpenSpec.upto (s : _root_.Go.ChangeSpec) : _root_.Go.OpenSpec := { _root_.Go.OpenSpec.ofChange s with cond := some uptoSmall }

/-- 'tilthlaw11.GreyPlays', WHERE WHAT IT READS IS OF BULK AT MOST 1048576: true; the input reads as it did. -/
def greyPlaysUptoRow : OpenClaim := { program := "ytbfgmpbbodlgiaa", sum := "cff03823a1b2344071750add4f01389fccbcb75da31800af8816c23a0991f9e4", func := "tilth/tilthlaw11.GreyPlays", spec := "greyPlays", apart := false, narrowed := true }
def GreyPlaysUptoSaid : Prop := greyPlaysUptoRow.holds Try.pinned (OpenSpec.upto greyPlaysSpec)

/-- 'tilthlaw11.GreyNone', WHERE WHAT IT READS IS OF BULK AT MOST 1048576: true; the input reads as it did. -/
def greyNoneUptoRow : OpenClaim := { program := "ytbfgmpbbodlgiaa", sum := "cff03823a1b2344071750add4f01389fccbcb75da31800af8816c23a0991f9e4", func := "tilth/tilthlaw11.GreyNone", spec := "greyNone", apart := false, narrowed := true }
def GreyNoneUptoSaid : Prop := greyNoneUptoRow.holds Try.pinned (OpenSpec.upto greyNoneSpec)

/-- 'tilthlaw11.GreyOrder', WHERE WHAT IT READS IS OF BULK AT MOST 1048576: true; the input reads as it did. -/
def greyOrderUptoRow : OpenClaim := { program := "ytbfgmpbbodlgiaa", sum := "cff03823a1b2344071750add4f01389fccbcb75da31800af8816c23a0991f9e4", func := "tilth/tilthlaw11.GreyOrder", spec := "greyOrder", apart := false, narrowed := true }
def GreyOrderUptoSaid : Prop := greyOrderUptoRow.holds Try.pinned (OpenSpec.upto greyOrderSpec)

/-- 'tilthlaw11.GreyLost', WHERE WHAT IT READS IS OF BULK AT MOST 1048576: true; the input reads as it did. -/
def greyLostUptoRow : OpenClaim := { program := "ytbfgmpbbodlgiaa", sum := "cff03823a1b2344071750add4f01389fccbcb75da31800af8816c23a0991f9e4", func := "tilth/tilthlaw11.GreyLost", spec := "greyLost", apart := false, narrowed := true }
def GreyLostUptoSaid : Prop := greyLostUptoRow.holds Try.pinned (OpenSpec.upto greyLostSpec)

end Rows
end Go.Proofs.Ytbfgmpbbodlgiaa
