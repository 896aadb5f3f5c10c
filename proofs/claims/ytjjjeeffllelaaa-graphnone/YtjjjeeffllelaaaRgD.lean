
/- Contracts of the document's graph: entries that change something, but making. -/
import Derived.Test.YtjjjeeffllelaaaRgC
import Derived.StillTailTactics
namespace Go.Proofs.Ytjjjeeffllelaaa
open Go.RowKit

abbrev sgV (k a b c v : Int) : Value := .agg #[.int .i64 k, .int .i64 a, .int .i64 b, .int .i64 c, .int .u64 v]
abbrev stB (k a b c v : Int) : Obj := .cells #[.int .i64 k, .int .i64 a, .int .i64 b, .int .i64 c, .int .u64 v] 33

/-- An error, and what it comes to. -/
def ChR (w : World) (g : Nat) (S : Nat → Prop) (G : Gr) (k a b c v : Int) (e : Ending) (w' : World) : Prop :=
  e = .returned (.int .i64 (G.change k a b c v).1) ∧ ∃ S', Rg w' g S' (G.change k a b c v).2 ∧ Mv S S' w w'

theorem chR_err {w w' : World} {g : Nat} {S : Nat → Prop} {G : Gr} {k a b c v x : Int} (h : Rg w g S G) (f : Below w.heap.size w w') (e : G.change k a b c v = (x, G)) : ChR w g S G k a b c v (.returned (.int .i64 x)) w' := by
  unfold ChR
  rw [e]
  exact ⟨rfl, S, h.keep f, Mv.of_below f⟩

section
variable (w : World) (g : Nat) (S : Nat → Prop) (G : Gr) (a b c v : Int)

set_option maxRecDepth 100000 in
set_option maxHeartbeats 4000000 in
theorem rgClear (r : Rg w g S G) : Calls Try.prog 30 #[.pointer (some ⟨g, 0, none⟩), sgV 6 a b c v] w fun e w' => ChR w g S G 6 a b c v e w' := by
  have al : Below w.heap.size w (w.alloc (stB 6 a b c v)) := (Below.refl _ _).alloc (Nat.le_refl _) _
  have HH := Lib.hid (rgHas_any _ g S G a (r.keep al))
  cases hb : G.has a
  · rw [hb] at HH
    have HE := Lib.hid (chR_err (k := 6) (a := a) (b := b) (c := c) (v := v) (x := 3) r al (by simp [Gr.change, hb]))
    clear r hb al
    go_enter Try.func30, Try.ntmps30
    go_wp2_with fail
    refine HH.out.mono ?_
    rintro e w1 ⟨rfl, rfl⟩
    go_wp2
    go_ret
    exact HE.out
  · obtain ⟨i, x, rfl, hl, hx, hv, x0, x1⟩ := r.at_ hb
    rw [hb] at HH
    have ec : G.change 6 i b c v = (0, G.hold i 0) := by simp [Gr.change, hb]
    obtain ⟨vN, hA, hc, nd, hi, eN, rfl⟩ := r
    have hk := hi.keep al
    obtain ⟨q, off, rfl, _, hcx, hfz⟩ := hk.hrow.at_ (by omega)
    have cx := hcx i x hx
    have kb := Blk.new w #[.int .i64 6, .int .i64 i, .int .i64 b, .int .i64 c, .int .u64 v] 33
    have hf := hi.hfew
    obtain ⟨c0, c1, c2, cf⟩ := hk.four
    have HE := Lib.hid (fun (w' : World) (f : Below (w.alloc (stB 6 i b c v)).heap.size (w.alloc (stB 6 i b c v)) w') => (show ChR w g (gOwn g vN (some ⟨q, off, none⟩) nd) G 6 i b c v (.returned (.int .i64 0)) (w'.setCell ⟨q, off + i, none⟩ (.int .i64 0)) from by
      obtain ⟨h1, mv⟩ := (hk.keep f).hold i 0 (by decide) (by omega)
      unfold ChR
      rw [ec]
      exact ⟨rfl, _, ⟨vN, _, hc, nd, by unfold Gr.hold; rw [Int.toNat_natCast]; exact h1, eN, rfl⟩, Mv.pre (below_trans al f) mv⟩))
    have s1 := kb.cell 1
    have sf := kb.frozen
    clear hi hcx hv hx hb ec kb al x0 x1 eN c0 c2
    generalize G.hs.length = n at c1 hl hf
    go_enter Try.func30, Try.ntmps30
    go_wp2_with fail
    refine HH.out.mono ?_
    rintro e w1 ⟨rfl, rfl⟩
    generalize hW : w.alloc (stB 6 i b c v) = W at *
    go_wp2_with fail
    go_region
    go_wp2
    go_ret
    exact HE.out _ (below_drew _)

set_option maxRecDepth 100000 in
set_option maxHeartbeats 4000000 in
theorem rgCopy (r : Rg w g S G) : Calls Try.prog 30 #[.pointer (some ⟨g, 0, none⟩), sgV 7 a b c v] w fun e w' => ChR w g S G 7 a b c v e w' := by
  have al : Below w.heap.size w (w.alloc (stB 7 a b c v)) := (Below.refl _ _).alloc (Nat.le_refl _) _
  have HH := Lib.hid (rgHas_any _ g S G a (r.keep al))
  have HB := Lib.hid (rgHas_any _ g S G b (r.keep al))
  cases hb : G.has a
  · rw [hb] at HH
    have HE := Lib.hid (chR_err (k := 7) (a := a) (b := b) (c := c) (v := v) (x := 3) r al (by simp [Gr.change, hb]))
    clear r hb al HB
    go_enter Try.func30, Try.ntmps30
    go_wp2_with fail
    refine HH.out.mono ?_
    rintro e w1 ⟨rfl, rfl⟩
    go_wp2
    go_ret
    exact HE.out
  · rw [hb] at HH
    cases hd : G.has b
    · rw [hd] at HB
      have HE := Lib.hid (chR_err (k := 7) (a := a) (b := b) (c := c) (v := v) (x := 3) r al (by simp [Gr.change, hb, hd]))
      clear r hb hd al
      go_enter Try.func30, Try.ntmps30
      go_wp2_with fail
      refine HH.out.mono ?_
      rintro e w1 ⟨rfl, rfl⟩
      go_wp2_with fail
      refine HB.out.mono ?_
      rintro e w1 ⟨rfl, rfl⟩
      go_wp2
      go_ret
      exact HE.out
    · rw [hd] at HB
      obtain ⟨i, x, rfl, hl, hx, hv, x0, x1⟩ := r.at_ hb
      obtain ⟨j, y, rfl, jl, hy, yv, y0, y1⟩ := r.at_ hd
      have ec : G.change 7 i j c v = (0, G.hold i y) := by simp [Gr.change, hb, hd, yv]
      obtain ⟨vN, hA, hc, nd, hi, eN, rfl⟩ := r
      have hk := hi.keep al
      obtain ⟨q, off, rfl, _, hcx, hfz⟩ := hk.hrow.at_ (by omega)
      have cx := hcx i x hx
      have cy := hcx j y hy
      have kb := Blk.new w #[.int .i64 7, .int .i64 i, .int .i64 j, .int .i64 c, .int .u64 v] 33
      have hf := hi.hfew
      obtain ⟨c0, c1, c2, cf⟩ := hk.four
      have HE := Lib.hid (fun (w' : World) (f : Below (w.alloc (stB 7 i j c v)).heap.size (w.alloc (stB 7 i j c v)) w') => (show ChR w g (gOwn g vN (some ⟨q, off, none⟩) nd) G 7 i j c v (.returned (.int .i64 0)) (w'.setCell ⟨q, off + i, none⟩ (.int .i64 y)) from by
        obtain ⟨h1, mv⟩ := (hk.keep f).hold i y y0 (by rw [eN, List.length_map] at y1; exact y1)
        unfold ChR
        rw [ec]
        exact ⟨rfl, _, ⟨vN, _, hc, nd, by unfold Gr.hold; rw [Int.toNat_natCast]; exact h1, eN, rfl⟩, Mv.pre (below_trans al f) mv⟩))
      have s1 := kb.cell 1
      have s2 := kb.cell 2
      have sf := kb.frozen
      clear hi hcx hv yv hx hy hb hd ec kb al x0 x1 y0 y1 eN c0 c2
      generalize G.hs.length = n at c1 hl jl hf
      go_enter Try.func30, Try.ntmps30
      go_wp2_with fail
      refine HH.out.mono ?_
      rintro e w1 ⟨rfl, rfl⟩
      go_wp2_with fail
      refine HB.out.mono ?_
      rintro e w1 ⟨rfl, rfl⟩
      generalize hW : w.alloc (stB 7 i j c v) = W at *
      go_wp2_with fail
      go_region
      go_wp2
      go_ret
      exact HE.out _ (below_drew _)

end

/-- A step's box, a node's copy, and the graph beside them. -/
structure Gx (w V : World) (g : Nat) (vN : Value) (hA : Option Addr) (hc : Nat) (nd : List Nd) (hs : List Int) (lg : Int) (sb nb : Nat) (k a b c v : Int) (z : Nd) : Prop where
  isg : IsG V g vN hA hc nd hs lg
  bel : Below w.heap.size w V
  st : Blk V sb #[.int .i64 k, .int .i64 a, .int .i64 b, .int .i64 c, .int .u64 v] 33
  nb : Blk V nb #[.slice (some ⟨z.pb, 0, none⟩) z.ps.length z.ps.length, .slice (some ⟨z.sb, 0, none⟩) z.ss.length z.ss.length] 45

theorem gx_make {w : World} {g : Nat} {vN : Value} {hA : Option Addr} {hc : Nat} {nd : List Nd} {hs : List Int} {lg : Int} (h : IsG w g vN hA hc nd hs lg) (k a b c v : Int) (z : Nd) :
    Gx w ((w.alloc (stB k a b c v)).alloc (.cells #[.slice (some ⟨z.pb, 0, none⟩) z.ps.length z.ps.length, .slice (some ⟨z.sb, 0, none⟩) z.ss.length z.ss.length] 45)).drew g vN hA hc nd hs lg w.heap.size (w.alloc (stB k a b c v)).heap.size k a b c v z := by
  have b1 : Below w.heap.size w (w.alloc (stB k a b c v)) := (Below.refl _ _).alloc (Nat.le_refl _) _
  have b2 := (Below.refl (w.alloc (stB k a b c v)).heap.size (w.alloc (stB k a b c v))).alloc (Nat.le_refl _) (.cells #[.slice (some ⟨z.pb, 0, none⟩) z.ps.length z.ps.length, .slice (some ⟨z.sb, 0, none⟩) z.ss.length z.ss.length] 45)
  have b3 := below_trans (below_trans b1 b2) (below_drew _)
  exact ⟨h.keep b3, b3, ((Blk.new w _ _).keep b2).drew, (Blk.new _ _ _).drew⟩

/-- A handle that holds an object. -/
theorem wrong_zero {G : Gr} {b : Int} (hw : G.wrong b = 0) : G.has b = true ∧ G.held b ≠ 0 := by
  unfold Gr.wrong at hw
  split at hw
  · rename_i hh
    refine ⟨hh, fun e => ?_⟩
    rw [if_pos e] at hw
    cases hw
  · cases hw

theorem two_set {nd : List Nd} {ns : List (List Int × List Int)} (e : ns = nd.map Nd.two) (i : Nat) (y : Nd) : ns.set i (y.ps, y.ss) = (nd.set i y).map Nd.two := by
  rw [e, List.map_set]; rfl
end Go.Proofs.Ytjjjeeffllelaaa
