/-
  No cell of these rows narrows 'for every input' (looked for: loops, veiled, ifaces, maps, wideKeys, modest, calm, conditions, laid).
  DERIVED. THE GIVEN ROWS OF THIS SEAT. 5 by the template 'for every input the law returns true; each argument reads behind the call as it read before'; 0 by the template 'total and deterministic' (their statements: YtjfijpbmbdjmjaaTotals.lean).
  GIVEN WITH THE SEED: the statements are not yours to turn. If you find one false, say at which input.
  Laid BY PROGRAM, IN A SANDBOX (cutbox-rows.mjs): the forced cells as the released guide's own fill.sh prints them over the translation c0a5b7ff79ee9bf8… (all of the seat's roots in one cut). By AI agents, Wed Nov 11 2026. No macro, syntax, notation, axiom, sorry.
-/
import Derived.Test.YtjfijpbmbdjmjaaChecked
import GoSem.Claim
import GoSem.ClaimJoined
import GoSem.ClaimMapViews
import Derived.JoinedTies
import Derived.KernelRfl
namespace Go.Proofs.Ytjfijpbmbdjmjaa
/- THE CELL 'sum', in the pinned program and in every row, IS THE sha256 OF THE DUMP (.gsa) THAT YtjfijpbmbdjmjaaProg.lean LOADS. Nothing in Lean hashes anything: it is a label: what it is worth is what the hold of that sum in a sandbox is worth. -/
noncomputable def Try.pinned : Pinned := { name := "ytjfijpbmbdjmjaa", sum := "c0a5b7ff79ee9bf819c50549f28054c47599ff3e69e2fee822bf2baabb6d88f2", checked := Try.checked }
namespace Rows
def none {H : Type} : Left H := { results := [], args := [] }

/-- 'tilthlaw01.HeadPacks': WHATEVER THE INPUT: true; the input reads as it did. -/
def headPacksSpec : ChangeSpec := { name := "headPacks", fn := fun _ => fun
  | [d] => { results := [.lit (.bool true)], args := [d] }
  | _ => none }
def headPacksRow : OpenClaim := { program := "ytjfijpbmbdjmjaa", sum := "c0a5b7ff79ee9bf819c50549f28054c47599ff3e69e2fee822bf2baabb6d88f2", func := "tilth/tilthlaw01.HeadPacks", spec := "headPacks", apart := false }
def HeadPacksSaid : Prop := headPacksRow.holds Try.pinned (OpenSpec.ofChange headPacksSpec)

/-- ITS FALSE NEIGHBOUR: 'it returns false'. Refute it at one input. -/
def headPacksWrong : ChangeSpec := { name := "headPacks", fn := fun _ => fun
  | [d] => { results := [.lit (.bool false)], args := [d] }
  | _ => none }
def HeadPacksWrongFalsely : Prop := headPacksRow.holds Try.pinned (OpenSpec.ofChange headPacksWrong)

/-- 'tilthlaw01.HeadUnpacks': WHATEVER THE INPUT: true; the input reads as it did. -/
def headUnpacksSpec : ChangeSpec := { name := "headUnpacks", fn := fun _ => fun
  | [d] => { results := [.lit (.bool true)], args := [d] }
  | _ => none }
def headUnpacksRow : OpenClaim := { program := "ytjfijpbmbdjmjaa", sum := "c0a5b7ff79ee9bf819c50549f28054c47599ff3e69e2fee822bf2baabb6d88f2", func := "tilth/tilthlaw01.HeadUnpacks", spec := "headUnpacks", apart := false }
def HeadUnpacksSaid : Prop := headUnpacksRow.holds Try.pinned (OpenSpec.ofChange headUnpacksSpec)

/-- ITS FALSE NEIGHBOUR: 'it returns false'. Refute it at one input. -/
def headUnpacksWrong : ChangeSpec := { name := "headUnpacks", fn := fun _ => fun
  | [d] => { results := [.lit (.bool false)], args := [d] }
  | _ => none }
def HeadUnpacksWrongFalsely : Prop := headUnpacksRow.holds Try.pinned (OpenSpec.ofChange headUnpacksWrong)

/-- 'tilthlaw01.HeadUnlike': WHATEVER THE INPUT: true; the input reads as it did. -/
def headUnlikeSpec : ChangeSpec := { name := "headUnlike", fn := fun _ => fun
  | [d1, d2] => { results := [.lit (.bool true)], args := [d1, d2] }
  | _ => none }
def headUnlikeRow : OpenClaim := { program := "ytjfijpbmbdjmjaa", sum := "c0a5b7ff79ee9bf819c50549f28054c47599ff3e69e2fee822bf2baabb6d88f2", func := "tilth/tilthlaw01.HeadUnlike", spec := "headUnlike", apart := false }
def HeadUnlikeSaid : Prop := headUnlikeRow.holds Try.pinned (OpenSpec.ofChange headUnlikeSpec)

/-- ITS FALSE NEIGHBOUR: 'it returns false'. Refute it at one input. -/
def headUnlikeWrong : ChangeSpec := { name := "headUnlike", fn := fun _ => fun
  | [d1, d2] => { results := [.lit (.bool false)], args := [d1, d2] }
  | _ => none }
def HeadUnlikeWrongFalsely : Prop := headUnlikeRow.holds Try.pinned (OpenSpec.ofChange headUnlikeWrong)

/-- 'tilthlaw01.HeadTurned': WHATEVER THE INPUT: true; the input reads as it did. -/
def headTurnedSpec : ChangeSpec := { name := "headTurned", fn := fun _ => fun
  | [d1, d2] => { results := [.lit (.bool true)], args := [d1, d2] }
  | _ => none }
def headTurnedRow : OpenClaim := { program := "ytjfijpbmbdjmjaa", sum := "c0a5b7ff79ee9bf819c50549f28054c47599ff3e69e2fee822bf2baabb6d88f2", func := "tilth/tilthlaw01.HeadTurned", spec := "headTurned", apart := false }
def HeadTurnedSaid : Prop := headTurnedRow.holds Try.pinned (OpenSpec.ofChange headTurnedSpec)

/-- ITS FALSE NEIGHBOUR: 'it returns false'. Refute it at one input. -/
def headTurnedWrong : ChangeSpec := { name := "headTurned", fn := fun _ => fun
  | [d1, d2] => { results := [.lit (.bool false)], args := [d1, d2] }
  | _ => none }
def HeadTurnedWrongFalsely : Prop := headTurnedRow.holds Try.pinned (OpenSpec.ofChange headTurnedWrong)

/-- 'tilthlaw01.HeadParts': WHATEVER THE INPUT: true; the input reads as it did. -/
def headPartsSpec : ChangeSpec := { name := "headParts", fn := fun _ => fun
  | [d1, d2, d3, d4, d5] => { results := [.lit (.bool true)], args := [d1, d2, d3, d4, d5] }
  | _ => none }
def headPartsRow : OpenClaim := { program := "ytjfijpbmbdjmjaa", sum := "c0a5b7ff79ee9bf819c50549f28054c47599ff3e69e2fee822bf2baabb6d88f2", func := "tilth/tilthlaw01.HeadParts", spec := "headParts", apart := false }
def HeadPartsSaid : Prop := headPartsRow.holds Try.pinned (OpenSpec.ofChange headPartsSpec)

/-- ITS FALSE NEIGHBOUR: 'it returns false'. Refute it at one input. -/
def headPartsWrong : ChangeSpec := { name := "headParts", fn := fun _ => fun
  | [d1, d2, d3, d4, d5] => { results := [.lit (.bool false)], args := [d1, d2, d3, d4, d5] }
  | _ => none }
def HeadPartsWrongFalsely : Prop := headPartsRow.holds Try.pinned (OpenSpec.ofChange headPartsWrong)

/- THE SECOND FORM. 'bulk': how many values and letters a reading holds, each counted each time it is reached (what is shared counts as often as it is met; a slice's spare places count too). A statement '..UptoSaid' is the law's where the arguments, and the package variables that the reading takes, are together of bulk at most 1048576: NARROWER than '..Said'. Prove '..Said' where nothing that the law and all that it calls make is longer than what came in: it says more and counts as full. Else prove '..UptoSaid'. A law counts once. -/
mutual
def uptoBulk {H : Type} : DataW H → Nat
  | .lit (.string bytes) => bytes.length + 1
  | .lit _ => 1
  | .nil => 1
  | .ptr d => uptoBulk d + 1
  | .slice elems spare => uptoBulkAll elems + uptoBulkAll spare + 1
  | .agg parts => uptoBulkAll parts + 1
  | .iface _ d => uptoBulk d + 1
  | .map entries => uptoBulkEntries entries + 1
  | .held _ => 1
def uptoBulkAll {H : Type} : List (DataW H) → Nat
  | [] => 0
  | d :: r => uptoBulk d + uptoBulkAll r
def uptoBulkEntries {H : Type} : List (Lit × DataW H) → Nat
  | [] => 0
  | x :: r => uptoBulkEntry x + uptoBulkEntries r
def uptoBulkEntry {H : Type} : Lit × DataW H → Nat
  | (.string bytes, d) => bytes.length + uptoBulk d + 1
  | (_, d) => uptoBulk d + 1
 end
def uptoSmall : (H : Type) → List (DataW H) → Bool := fun _ ds => decide (uptoBulkAll ds ≤ 1048576)
def OpenSpec.upto (s : _root_.Go.ChangeSpec) : _root_.Go.OpenSpec := { _root_.Go.OpenSpec.ofChange s with cond := some uptoSmall }

/-- 'tilthlaw01.HeadPacks', WHERE WHAT IT READS IS OF BULK AT MOST 1048576: true; the input reads as it did. -/
def headPacksUptoRow : OpenClaim := { program := "ytjfijpbmbdjmjaa", sum := "c0a5b7ff79ee9bf819c50549f28054c47599ff3e69e2fee822bf2baabb6d88f2", func := "tilth/tilthlaw01.HeadPacks", spec := "headPacks", apart := false, narrowed := true }
def HeadPacksUptoSaid : Prop := headPacksUptoRow.holds Try.pinned (OpenSpec.upto headPacksSpec)

/-- 'tilthlaw01.HeadUnpacks', WHERE WHAT IT READS IS OF BULK AT MOST 1048576: true; the input reads as it did. -/
def headUnpacksUptoRow : OpenClaim := { program := "ytjfijpbmbdjmjaa", sum := "c0a5b7ff79ee9bf819c50549f28054c47599ff3e69e2fee822bf2baabb6d88f2", func := "tilth/tilthlaw01.HeadUnpacks", spec := "headUnpacks", apart := false, narrowed := true }
def HeadUnpacksUptoSaid : Prop := headUnpacksUptoRow.holds Try.pinned (OpenSpec.upto headUnpacksSpec)

/-- 'tilthlaw01.HeadUnlike', WHERE WHAT IT READS IS OF BULK AT MOST 1048576: true; the input reads as it did. -/
def headUnlikeUptoRow : OpenClaim := { program := "ytjfijpbmbdjmjaa", sum := "c0a5b7ff79ee9bf819c50549f28054c47599ff3e69e2fee822bf2baabb6d88f2", func := "tilth/tilthlaw01.HeadUnlike", spec := "headUnlike", apart := false, narrowed := true }
def HeadUnlikeUptoSaid : Prop := headUnlikeUptoRow.holds Try.pinned (OpenSpec.upto headUnlikeSpec)

/-- 'tilthlaw01.HeadTurned', WHERE WHAT IT READS IS OF BULK AT MOST 1048576: true; the input reads as it did. -/
def headTurnedUptoRow : OpenClaim := { program := "ytjfijpbmbdjmjaa", sum := "c0a5b7ff79ee9bf819c50549f28054c47599ff3e69e2fee822bf2baabb6d88f2", func := "tilth/tilthlaw01.HeadTurned", spec := "headTurned", apart := false, narrowed := true }
def HeadTurnedUptoSaid : Prop := headTurnedUptoRow.holds Try.pinned (OpenSpec.upto headTurnedSpec)

/-- 'tilthlaw01.HeadParts', WHERE WHAT IT READS IS OF BULK AT MOST 1048576: true; the input reads as it did. -/
def headPartsUptoRow : OpenClaim := { program := "ytjfijpbmbdjmjaa", sum := "c0a5b7ff79ee9bf819c50549f28054c47599ff3e69e2fee822bf2baabb6d88f2", func := "tilth/tilthlaw01.HeadParts", spec := "headParts", apart := false, narrowed := true }
def HeadPartsUptoSaid : Prop := headPartsUptoRow.holds Try.pinned (OpenSpec.upto headPartsSpec)

end Rows
end Go.Proofs.Ytjfijpbmbdjmjaa
