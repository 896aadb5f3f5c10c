
/- Contracts of the document's graph: Make. -/
import Derived.Test.YtjjjeeffllelaaaRgE
import Derived.Deep.RegionLaw
import Derived.Laws.MakeOwn
namespace Go.Proofs.Ytjjjeeffllelaaa
open Go.RowKit

theorem rgMadeI (n : Nat) : madeCells (Value.int .i64 0).cells n = (ints (List.replicate n 0)).toArray := by
  apply Array.ext
  · simp [madeCells, ints]
  · intro i h1 h2
    simp [madeCells, Value.cells, ints, Nat.mod_one]
theorem rgMadeU (n : Nat) : madeCells (Value.int .u64 0).cells n = (wordsU (List.replicate n 0)).toArray := by
  apply Array.ext
  · simp [madeCells, wordsU]
  · intro i h1 h2
    simp [madeCells, Value.cells, wordsU, Nat.mod_one]

theorem info_u64r : (Try.prog.info? 28).map (fun i => (i.zero, i.size, i.bytes)) = some (some (.int .u64 0), 1, 8) := by kernel_rfl

theorem rgMakeI (n : Nat) (h1 : n ≤ 64) (w : World) :
    (Instr.makeSlice 36 (.int .i64 n) (.int .i64 n)).run Try.prog w = .ok (.slice (some ⟨w.heap.size, 0, none⟩) n n) (w.alloc (.cells (ints (List.replicate n 0)).toArray 3)) := by
  obtain ⟨i, hi, hz, hs, hb⟩ := info_parts info_int
  have h := run_make (P := Try.prog) w 36 3 i _ Try.underlying36 hi hz .i64 .i64 (n : Int) (n : Int) (by omega) (Int.le_refl _) (by rw [hb]; omega) (by omega)
  rw [hs, Nat.mul_one, rgMadeI, Int.toNat_natCast] at h
  exact h
theorem rgMakeU (n : Nat) (h1 : n ≤ 64) (w : World) :
    (Instr.makeSlice 43 (.int .i64 n) (.int .i64 n)).run Try.prog w = .ok (.slice (some ⟨w.heap.size, 0, none⟩) n n) (w.alloc (.cells (wordsU (List.replicate n 0)).toArray 28)) := by
  obtain ⟨i, hi, hz, hs, hb⟩ := info_parts info_u64r
  have h := run_make (P := Try.prog) w 43 28 i _ Try.underlying43 hi hz .i64 .i64 (n : Int) (n : Int) (by omega) (Int.le_refl _) (by rw [hb]; omega) (by omega)
  rw [hs, Nat.mul_one, rgMadeU, Int.toNat_natCast] at h
  exact h

theorem grown_own {v : Value} {w w' : World} (h : w.grownBy w' v.ownBlock) : Frm (fun k => v.ownBlock = some k) w w' :=
  ⟨h.os, h.tape, h.output, h.size, fun k hk hn => h.block k hk (fun e => hn e.symm)⟩

/-- One more node. -/
theorem IsG.add {w w1 w2 : World} {g : Nat} {vN : Value} {hA : Option Addr} {hc : Nat} {nd : List Nd} {hs : List Int} {lg : Int} {g' cap H : Nat} (h : IsG w g vN hA hc nd hs lg) (x : Nd) (f : Below w.heap.size w w2)
    (bp : Blk w2 x.pb (ints x.ps).toArray 3) (bs : Blk w2 x.sb (wordsU x.ss).toArray 28) (np : w.heap.size ≤ x.pb) (nsb : w.heap.size ≤ x.sb) (hz : ∀ q ∈ x.ps, q = 0) (few : nd.length < 1048576) (sz : x.ps.length ≤ 64 ∧ x.ss.length ≤ 64)
    (own : w1.ownsRow 0 45 2 (.slice (some ⟨g', 0, none⟩) (nd.length + 1 + 1) cap) (nd.length + 1 + 1) (ndV nd ++ x.vs)) (gr : w2.grownBy w1 vN.ownBlock) (hat : vN.ownBlock = some g' ∨ g' = H) (hH : w2.heap.size = H) :
    IsG (w1.setCell ⟨g, 0, none⟩ (.slice (some ⟨g', 0, none⟩) (nd.length + 1 + 1) cap)) g (.slice (some ⟨g', 0, none⟩) (nd.length + 1 + 1) cap) hA hc (nd ++ [x]) hs lg ∧
      Mv (gOwn g vN hA nd) (gOwn g (.slice (some ⟨g', 0, none⟩) (nd.length + 1 + 1) cap) hA (nd ++ [x])) w (w1.setCell ⟨g, 0, none⟩ (.slice (some ⟨g', 0, none⟩) (nd.length + 1 + 1) cap)) := by
  have hk := h.keep f
  have fr := grown_own gr
  obtain ⟨nb, nc, cur, en, hnb, _⟩ := hk.row
  have no : ∀ {k : Nat} {cs : Array Value} {ty : TypeId}, Blk w2 k cs ty → ty ≠ 45 → ¬ vN.ownBlock = some k := by
    intro k cs ty hb n1 e
    rw [en] at e
    cases e
    exact Blk.ne_ hb hnb n1 rfl
  have kb := hk.blk.frm fr (no hk.blk (by decide))
  have fs : Frm (fun k => k = g) w1 (w1.setCell ⟨g, 0, none⟩ (.slice (some ⟨g', 0, none⟩) (nd.length + 1 + 1) cap)) := Frm.setCell (S := fun k => k = g) (Frm.refl _ _) (p := ⟨g, 0, none⟩) (fun _ => rfl) _
  have two : ∀ {k : Nat} {cs : Array Value} {ty : TypeId}, Blk w2 k cs ty → ty ≠ 45 → ty ≠ 53 → Blk (w1.setCell ⟨g, 0, none⟩ (.slice (some ⟨g', 0, none⟩) (nd.length + 1 + 1) cap)) k cs ty := by
    intro k cs ty hb n1 n2
    have k1 := hb.frm fr (no hb n1)
    exact k1.frm fs fun e => Blk.ne_ k1 kb n2 e
  have hq : Qu (w1.setCell ⟨g, 0, none⟩ (.slice (some ⟨g', 0, none⟩) (nd.length + 1 + 1) cap)) hA hs.length hc hs := by
    refine { hk.hrow with lies := hk.hrow.lies.imp id ?_ }
    rintro ⟨q, off, cs, rfl, hb, r⟩
    exact ⟨q, off, cs, rfl, two hb (by decide) (by decide), r⟩
  have hl : (nd ++ [x]).length = nd.length + 1 := by simp
  have hg' : g' ≠ g := by
    rintro rfl
    rcases own.2 with ⟨e, _⟩ | ⟨q, _, cs, e, _, hb, _⟩
    · cases e
    · cases e
      exact Blk.ne_ kb (show Blk w1 g' cs 45 from hb) (by decide) rfl
  refine ⟨{ blk := kb.set_ 0 _, hrow := hq, nrow := ?_, ptr := ?_, sca := ?_, hap := ?_, nap := ?_, hin := ?_, pin := ?_, few := by rw [hl]; omega, hfew := h.hfew, lg0 := h.lg0, lg1 := h.lg1, size := ?_ }, ?_, ?_⟩
  · rw [hl, ndV_snoc]
    exact ownsRow_frm own fs (fun j e => by cases e; exact hg')
  · intro z hz
    rcases List.mem_append.1 hz with hz | hz
    · exact two (hk.ptr z hz) (by decide) (by decide)
    · rw [List.mem_singleton.1 hz]; exact two bp (by decide) (by decide)
  · intro z hz
    rcases List.mem_append.1 hz with hz | hz
    · exact two (hk.sca z hz) (by decide) (by decide)
    · rw [List.mem_singleton.1 hz]; exact two bs (by decide) (by decide)
  · intro z hz
    rcases List.mem_append.1 hz with hz | hz
    · exact h.hap z hz
    · rw [List.mem_singleton.1 hz]
      intro e
      have := h.hrow.lt e
      omega
  · rw [List.pairwise_append]
    refine ⟨h.nap, List.pairwise_singleton _ _, fun a ha b hb => ?_⟩
    rw [List.mem_singleton.1 hb]
    have p1 := (h.ptr a ha).lt
    have p2 := (h.sca a ha).lt
    omega
  · intro y hy; rw [hl]; have := h.hin y hy; omega
  · intro z hz' q hq'
    rw [hl]
    rcases List.mem_append.1 hz' with hz' | hz'
    · have := h.pin z hz' q hq'; omega
    · rw [List.mem_singleton.1 hz'] at hq'
      rw [hz q hq']; omega
  · intro z hz'
    rcases List.mem_append.1 hz' with hz' | hz'
    · exact h.size z hz'
    · rw [List.mem_singleton.1 hz']; exact sz
  · refine Frm.setCell (p := ⟨g, 0, none⟩) ((Frm.of_below f : Frm (gOwn g vN hA nd) w w2).trans fr (fun i _ e => .inr (.inl e))) (fun _ => .inl rfl) _
  · rintro k (e | e | e | ⟨z, hz', e⟩)
    · exact .inl (.inl e)
    · cases e
      rcases hat with e | e
      · exact .inl (.inr (.inl e))
      · have := f.size; exact .inr (show w.heap.size ≤ g' from by omega)
    · exact .inl (.inr (.inr (.inl e)))
    · rcases List.mem_append.1 hz' with hz' | hz'
      · exact .inl (.inr (.inr (.inr ⟨z, hz', e⟩)))
      · rw [List.mem_singleton.1 hz'] at e
        exact .inr (by omega)

section
variable (w : World) (g : Nat) (S : Nat → Prop) (G : Gr) (a b c v : Int)

set_option maxRecDepth 100000 in
set_option maxHeartbeats 8000000 in
theorem rgMake_no (r : Rg w g S G) (hno : G.has a = false ∨ (b < 0 ∨ c < 0 ∨ G.lg < b ∨ G.lg - b < c)) (hb0 : -9223372036854775808 ≤ b) (hb1 : b ≤ 9223372036854775807) :
    Calls Try.prog 30 #[.pointer (some ⟨g, 0, none⟩), sgV 1 a b c v] w fun e w' => ChR w g S G 1 a b c v e w' := by
  have al : Below w.heap.size w (w.alloc (stB 1 a b c v)) := (Below.refl _ _).alloc (Nat.le_refl _) _
  have HH := Lib.hid (rgHas_any _ g S G a (r.keep al))
  cases hh : G.has a
  · rw [hh] at HH
    have HE := Lib.hid (chR_err (k := 1) (a := a) (b := b) (c := c) (v := v) (x := 3) r al (by simp [Gr.change, hh]))
    clear r hno hh al
    go_enter Try.func30, Try.ntmps30
    go_wp2_with fail
    refine HH.out.mono ?_
    rintro e w1 ⟨rfl, rfl⟩
    go_wp2
    go_ret
    exact HE.out
  · rw [hh] at HH hno
    have bad := hno.resolve_left (by decide)
    have HE := Lib.hid (fun w' (f : Below (w.alloc (stB 1 a b c v)).heap.size (w.alloc (stB 1 a b c v)) w') => chR_err (k := 1) (a := a) (b := b) (c := c) (v := v) (x := 6) r (below_trans al f) (by unfold Gr.change; rw [if_pos rfl, if_pos hh, if_pos bad]))
    obtain ⟨vN, hA, hc, nd, hi, eN, _⟩ := r
    obtain ⟨c0, c1, c2, cf⟩ := (hi.keep al).four
    have l0 := hi.lg0
    have l1 := hi.lg1
    have kb := Blk.new w #[.int .i64 1, .int .i64 a, .int .i64 b, .int .i64 c, .int .u64 v] 33
    have s2 := kb.cell 2
    have s3 := kb.cell 3
    clear hi eN kb al hh hno c0 c1
    generalize G.lg = lg at *
    rcases (show b < 0 ∨ (¬ b < 0 ∧ c < 0) ∨ (¬ b < 0 ∧ ¬ c < 0 ∧ lg < b) ∨ (¬ b < 0 ∧ ¬ c < 0 ∧ ¬ lg < b ∧ lg - b < c) from by omega) with h1 | ⟨h1, h2⟩ | ⟨h1, h2, h3⟩ | ⟨h1, h2, h3, h4⟩
    · have d1 : decide (b < 0) = true := decide_eq_true h1
      go_enter Try.func30, Try.ntmps30
      go_wp2_with fail
      refine HH.out.mono ?_
      rintro e w1 ⟨rfl, rfl⟩
      go_wp2_with fail
      go_big_quiet (fail)
      go_wp2
      go_ret
      exact HE.out _ (below_drewN _ _)
    · have d1 : decide (b < 0) = false := decide_eq_false h1
      have d2 : decide (c < 0) = true := decide_eq_true h2
      go_enter Try.func30, Try.ntmps30
      go_wp2_with fail
      refine HH.out.mono ?_
      rintro e w1 ⟨rfl, rfl⟩
      go_wp2_with fail
      go_big_quiet (fail)
      go_wp2
      go_ret
      exact HE.out _ (below_drewN _ _)
    · have d1 : decide (b < 0) = false := decide_eq_false h1
      have d2 : decide (c < 0) = false := decide_eq_false h2
      have d3 : decide (lg < b) = true := decide_eq_true h3
      have d3' : decide (b > lg) = true := decide_eq_true h3
      go_enter Try.func30, Try.ntmps30
      go_wp2_with fail
      refine HH.out.mono ?_
      rintro e w1 ⟨rfl, rfl⟩
      go_wp2_with fail
      go_big_quiet (fail)
      go_wp2
      go_ret
      exact HE.out _ (below_drewN _ _)
    · have d1 : decide (b < 0) = false := decide_eq_false h1
      have d2 : decide (c < 0) = false := decide_eq_false h2
      have d3 : decide (lg < b) = false := decide_eq_false h3
      have d3' : decide (b > lg) = false := decide_eq_false h3
      have d4 : decide (lg - b < c) = true := decide_eq_true h4
      have d4' : decide (c > lg - b) = true := decide_eq_true h4
      have wl : IntKind.i64.wrap (lg - b) = lg - b := IntWalk.i64_in _ (by omega)
      go_enter Try.func30, Try.ntmps30
      go_wp2_with fail
      refine HH.out.mono ?_
      rintro e w1 ⟨rfl, rfl⟩
      go_wp2_with fail
      go_big_quiet (fail)
      go_wp2
      go_ret
      exact HE.out _ (below_drewN _ _)
end
end Go.Proofs.Ytjjjeeffllelaaa
