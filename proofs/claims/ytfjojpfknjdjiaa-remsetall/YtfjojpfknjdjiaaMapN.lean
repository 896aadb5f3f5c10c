/- Numbers counted in a map; of no program's own functions. -/
import Derived.Test.YtfjojpfknjdjiaaMapB
namespace Go.Proofs.Ytfjojpfknjdjiaa
open Go.RowKit Go.Maps

theorem zeroI (w : World) : (zeroValue 3).run Try.prog w = .ok (.int .i64 0) w := by kernel_rfl

/-- Block B is a map that says how often each number was counted; there were no more than n counts. -/
structure CntM (w : World) (B n : Nat) (f : Nat → Nat) : Prop where
  map : ∃ D : DataW Unit, w.ownsMap Try.prog 3 (plainElem Try.prog 3) B n D ∧ ∀ c, D.atKey (KI c) (.lit (.int .i64 0)) = .lit (.int .i64 (f c : Int))
  few : ∀ c, f c ≤ n

/-- One count more. -/
def bump (f : Nat → Nat) (c : Nat) (y : Nat) : Nat := if y = c then f y + 1 else f y

theorem CntM.lt {w : World} {B n : Nat} {f : Nat → Nat} (h : CntM w B n f) : B < w.heap.size := by obtain ⟨D, hD, _⟩ := h.map; exact hD.lt

theorem CntM.frm {S : Nat → Prop} {w w' : World} {B n : Nat} {f : Nat → Nat} (h : CntM w B n f) (k : Frm S w w') (hb : ¬ S B) : CntM w' B n f := by
  obtain ⟨D, hD, ha⟩ := h.map
  have hl := hD.lt
  obtain ⟨es, clock, hB, r⟩ := hD
  exact ⟨⟨D, ⟨es, clock, (k.block B hl hb).trans hB, r⟩, ha⟩, h.few⟩

theorem CntM.new (w : World) : CntM (w.alloc (.map #[] 0)) w.heap.size 0 (fun _ => 0) := ⟨⟨.map [], World.ownsMap_made _ _ _ _, fun _ => rfl⟩, fun _ => Nat.le_refl _⟩

theorem CntM.mono {w : World} {B n m : Nat} {f : Nat → Nat} (h : CntM w B n f) (k : n ≤ m) : CntM w B m f := by
  obtain ⟨D, hD, ha⟩ := h.map
  exact ⟨⟨D, hD.mono k, ha⟩, fun c => Nat.le_trans (h.few c) k⟩

theorem CntM.look {w : World} {B n : Nat} {f : Nat → Nat} (h : CntM w B n f) {c : Nat} (hc : c ≤ 1048576) :
    (Instr.lookup 39 (.map (some B)) (.int .i64 (c : Int)) false).run Try.prog w = .ok (.int .i64 (f c : Int)) w := by
  obtain ⟨D, hD, ha⟩ := h.map
  obtain ⟨x, hrun, hx, _⟩ := hD.lookup_int lawI Try.underlying39 Try.underlying3 (zeroI w) (keyI c hc)
  rw [ha c] at hx
  injection hx with hx
  injection hx with _ hx
  rw [hx]
  exact hrun

theorem bump_few {f : Nat → Nat} {n : Nat} (h : ∀ c, f c ≤ n) (c : Nat) : ∀ y, bump f c y ≤ n + 1 := fun y => by unfold bump; have := h y; split <;> omega

/-- .. at the operation, for the walk. -/
theorem wpList_count (w : World) {ops : Array Oper} {rest : List Oper} {o : Oper} {a : Act} {Q : Exit → Act → World → Prop}
    (hg : o.guard = none) (m x v : Operand) (hop : o.op = Op.mapUpdate 39 m x v) (B n : Nat) (f : Nat → Nat) (hm : a.eval m = .map (some B)) (h : CntM w B n f) (hn : n < 1048576) (c : Nat) (hc : c ≤ 1048576)
    (hx : a.eval x = .int .i64 (c : Int)) (hv : a.eval v = .int .i64 ((f c : Int) + 1))
    (hK : ∀ w', CntM w' B (n + 1) (bump f c) → Frm (· = B) w w' → wpList Try.prog ops Q rest (a.put o.dst undef) w') :
    wpList Try.prog ops Q (o :: rest) a w := by
  obtain ⟨D, hD, ha⟩ := h.map
  have fc := h.few c
  refine wpList_mapUpdate_own w hg m x v 39 hop 3 3 lawI Try.underlying39 _ B n D hm hD (by unfold maxLen; omega) _ _ _ hx hv (keyI c hc) _ [] (plainElem_int Try.underlying3 (WalkArith.wf_i64 (by omega))) ?_
  intro w' ho hgr
  refine hK w' ⟨⟨_, ho, fun y => ?_⟩, bump_few h.few c⟩ ⟨hgr.os, hgr.tape, hgr.output, hgr.size, fun k hk hn => hgr.block k hk (fun e => hn (Option.some.inj e))⟩
  by_cases e : y = c
  · subst e
    rw [atKey_put_same (hD.tidy lawI).isMap (show WideAt.IsKeyLit (KI y) from trivial), bump, if_pos rfl]
    push_cast
    rfl
  · rw [atKey_put_other (KI_ne e), ha, bump, if_neg e]
end Go.Proofs.Ytfjojpfknjdjiaa
