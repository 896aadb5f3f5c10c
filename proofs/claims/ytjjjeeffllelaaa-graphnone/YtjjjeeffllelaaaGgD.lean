/- Contracts of the program's graph: New, making a node, cycles. -/
import Derived.Test.YtjjjeeffllelaaaGgC
import Derived.Test.YtjjjeeffllelaaaRgF
import Derived.Deep.RegionWith
import Derived.Deep.DeepCutAuto
namespace Go.Proofs.Ytjjjeeffllelaaa
open Go.RowKit

theorem ptMade (n : Nat) : madeCells (Value.pointer none).cells n = (ptVs [] (List.replicate n 0)).toArray := by
  apply Array.ext
  · simp [madeCells, ptVs]
  · intro i h1 h2
    simp [madeCells, Value.cells, ptVs, Nat.mod_one, ptV, ptA]
theorem info_pt : (Try.prog.info? 66).map (fun i => (i.zero, i.size, i.bytes)) = some (some (.pointer none), 1, 8) := by kernel_rfl
theorem run_make_pt (k : Int) (n : Nat) (e : k = n) (h1 : n ≤ 64) (w : World) :
    (Instr.makeSlice 49 (.int .i64 k) (.int .i64 k)).run Try.prog w = .ok (.slice (some ⟨w.heap.size, 0, none⟩) n n) (w.alloc (.cells (ptVs [] (List.replicate n 0)).toArray 66)) := by
  subst e
  obtain ⟨i, hi, hz, hs, hb⟩ := info_parts info_pt
  have h := run_make (P := Try.prog) w 49 66 i _ Try.underlying49 hi hz .i64 .i64 (n : Int) (n : Int) (by omega) (Int.le_refl _) (by rw [hb]; omega) (by omega)
  rw [hs, Nat.mul_one, ptMade, Int.toNat_natCast] at h
  exact h

theorem gNew_made (w : World) (n : Nat) (L : Int) (hn : n ≤ 64) (L0 : 0 ≤ L) (L1 : L ≤ 64) (G : Gr) (eG : G = ⟨[], List.replicate n 0, L⟩) :
    ∃ S, Pg ((w.alloc (.cells (ptVs [] (List.replicate n 0)).toArray 66)).alloc (.cells #[.slice (some ⟨w.heap.size, 0, none⟩) n n, .int .i64 L] 51)) (w.heap.size + 1) S G ∧
      Below w.heap.size w ((w.alloc (.cells (ptVs [] (List.replicate n 0)).toArray 66)).alloc (.cells #[.slice (some ⟨w.heap.size, 0, none⟩) n n, .int .i64 L] 51)) ∧ ∀ k, S k → w.heap.size ≤ k := by
  subst eG
  have s1 : (w.alloc (.cells (ptVs [] (List.replicate n 0)).toArray 66)).heap.size = w.heap.size + 1 := by simp
  have k2 := Blk.new (w.alloc (.cells (ptVs [] (List.replicate n 0)).toArray 66)) #[.slice (some ⟨w.heap.size, 0, none⟩) n n, .int .i64 L] 51
  rw [s1] at k2
  refine ⟨pOwn (w.heap.size + 1) w.heap.size [], ⟨w.heap.size, [], ?_, rfl, rfl⟩, ((Below.refl _ _).alloc (Nat.le_refl _) _).alloc (by omega) _, ?_⟩
  · exact { blk := (by rw [List.length_replicate]; exact k2), hrow := (Blk.new w _ _).alloc _, box := (fun x h => by cases h), ptr := (fun x h => by cases h), sca := (fun x h => by cases h), hap := (fun x h => by cases h), nap := List.Pairwise.nil,
            hin := (fun x h => by rw [List.eq_of_mem_replicate h]; exact ⟨Int.le_refl _, Int.le_refl _⟩), pin := (fun x h => by cases h), hfew := (by rw [List.length_replicate]; exact hn), lg0 := L0, lg1 := L1, size := (fun x h => by cases h) }
  · rintro k (rfl | rfl | ⟨x, h, _⟩)
    · omega
    · exact Nat.le_refl _
    · cases h

set_option maxHeartbeats 8000000 in
theorem pgNew (hn l : Int) (w : World) :
    Calls Try.prog 9 #[.int .i64 hn, .int .i64 l] w fun e w' => ∃ g, e = .returned (gP g) ∧ ∃ S, Pg w' g S (Gr.new hn l) ∧ Below w.heap.size w w' ∧ ∀ k, S k → w.heap.size ≤ k := by
  obtain ⟨n, hnn⟩ : ∃ n, nhI hn = n := ⟨_, rfl⟩
  have n1 : (n : Int) = min (max hn 0) 64 := by rw [← hnn]; unfold nhI; omega
  obtain ⟨L, hL⟩ : ∃ L, cutI l 0 64 = L := ⟨_, rfl⟩
  have L0 : 0 ≤ L := by rw [← hL]; exact (cutI_in (by decide)).1
  have L1 : L ≤ 64 := by rw [← hL]; exact (cutI_in (by decide)).2
  have eG : Gr.new hn l = ⟨[], List.replicate n 0, L⟩ := by unfold Gr.new; rw [hnn, hL]
  have HZ := Lib.hid (gNew_made w n L (by omega) L0 L1 _ eG)
  generalize Gr.new hn l = G at *
  clear eG hnn
  have hs : (l < 0 ∧ L = 0) ∨ (64 < l ∧ L = 64) ∨ (0 ≤ l ∧ l ≤ 64 ∧ L = l) := by
    rw [← hL]; unfold cutI
    by_cases h0 : l < 0
    · exact .inl ⟨h0, if_pos h0⟩
    · by_cases h1 : 64 < l
      · exact .inr (.inl ⟨h1, by rw [if_neg h0, if_pos h1]⟩)
      · exact .inr (.inr ⟨by omega, by omega, by rw [if_neg h0, if_neg h1]⟩)
  have ks : (hn < 0 ∧ n = 0) ∨ (64 < hn ∧ n = 64) ∨ (0 ≤ hn ∧ hn ≤ 64 ∧ hn = n) := by omega
  clear hL n1
  unfold gP
  rcases ks with ⟨k0, rfl⟩ | ⟨k0, rfl⟩ | ⟨k0, k1, k2⟩
  · have hmk := run_make_pt 0 0 rfl (by decide)
    generalize (ptVs [] (List.replicate 0 0)).toArray = row at *
    rcases hs with ⟨h0, rfl⟩ | ⟨h0, rfl⟩ | ⟨h0, h1, rfl⟩
    all_goals
      go_enter Try.func9, Try.ntmps9
      go_wp2
      go_ret
      exact ⟨_, rfl, HZ.out⟩
  · have hmk := run_make_pt 64 64 rfl (by decide)
    generalize (ptVs [] (List.replicate 64 0)).toArray = row at *
    rcases hs with ⟨h0, rfl⟩ | ⟨h0, rfl⟩ | ⟨h0, h1, rfl⟩
    all_goals
      go_enter Try.func9, Try.ntmps9
      go_wp2
      go_ret
      exact ⟨_, rfl, HZ.out⟩
  · have hmk := run_make_pt hn n k2 (by omega)
    generalize (ptVs [] (List.replicate n 0)).toArray = row at *
    clear k2
    rcases hs with ⟨h0, rfl⟩ | ⟨h0, rfl⟩ | ⟨h0, h1, rfl⟩
    all_goals
      go_enter Try.func9, Try.ntmps9
      go_wp2
      go_ret
      exact ⟨_, rfl, HZ.out⟩

set_option maxHeartbeats 2000000 in
theorem cyc_any (a : Int) (w : World) : Calls Try.prog 29 #[.int .i64 a] w fun e w' => e = .returned (.int .i64 (if a = 0 ∨ a = 1 then 0 else 1)) ∧ w = w' := by
  rcases (show a = 0 ∨ a = 1 ∨ (¬ a = 0 ∧ ¬ a = 1) from by omega) with rfl | rfl | ⟨h0, h1⟩
  · rw [if_pos (.inl rfl)]
    go_enter Try.func29, Try.ntmps29
    go_wp2
    go_ret
    exact ⟨rfl, rfl⟩
  · rw [if_pos (.inr rfl)]
    go_enter Try.func29, Try.ntmps29
    go_wp2
    go_ret
    exact ⟨rfl, rfl⟩
  · rw [if_neg (by omega)]
    have q0 : (a != 0) = true := by simpa using h0
    have q1 : (a != 1) = true := by simpa using h1
    go_enter Try.func29, Try.ntmps29
    go_wp2
    go_ret
    exact ⟨rfl, rfl⟩

section
variable (w : World) (g : Nat) (S : Nat → Prop) (G : Gr) (a b c v : Int)

set_option maxRecDepth 100000 in
set_option maxHeartbeats 8000000 in
theorem pgMake_no (r : Pg w g S G) (hc0 : -9223372036854775808 ≤ c) (hc1 : c ≤ 9223372036854775807) (hh : G.has a = false ∨ (b < 0 ∨ c < 0 ∨ G.lg < b ∨ G.lg - b < c)) :
    Calls Try.prog 19 #[gP g, .int .i64 a, .int .i64 b, .int .i64 c] w fun e w' => ChP w g S G 1 a b c v e w' := by
  obtain ⟨hb, nd, hi, eN, rfl⟩ := id r
  rcases hi.has_ a with ⟨e, h⟩ | ⟨i, x, rfl, e, hl, hx, hv, x0, x1⟩
  · have H := Lib.hid (hd_no hi h)
    have HE := Lib.hid (chP_err (k := 1) (a := a) (b := b) (c := c) (v := v) (x := 3) r (by simp [Gr.change, e]))
    clear hi h e r eN hh
    unfold gP at *
    go_enter Try.func19, Try.ntmps19
    go_wp2_with fail
    refine H.out.mono ?_
    rintro e w1 ⟨rfl, rfl⟩
    go_wp2
    go_ret
    exact HE.out
  · have hh := hh.resolve_left (by rw [e]; simp)
    have H := Lib.hid (hd_yes hi hx)
    have HE := Lib.hid (chP_err (k := 1) (a := i) (b := b) (c := c) (v := v) (x := 6) r (by unfold Gr.change; rw [if_pos rfl, if_pos e, if_pos hh]))
    obtain ⟨c0, c1⟩ := hi.two
    have l0 := hi.lg0
    have l1 := hi.lg1
    have gl := hi.blk.lt
    clear hi e r eN hx hv x0 x1
    generalize G.lg = L at *
    generalize G.hs.length = n at *
    unfold gP ptV at *
    by_cases h0 : b < 0
    · have d0 : decide (b < 0) = true := decide_eq_true h0
      go_enter Try.func19, Try.ntmps19
      go_wp2_with fail
      refine H.out.mono ?_
      rintro e w1 ⟨rfl, rfl⟩
      go_wp2
      go_ret
      exact HE.out
    · have d0 : decide (b < 0) = false := decide_eq_false h0
      by_cases h1 : c < 0
      · have d1 : decide (c < 0) = true := decide_eq_true h1
        go_enter Try.func19, Try.ntmps19
        go_wp2_with fail
        refine H.out.mono ?_
        rintro e w1 ⟨rfl, rfl⟩
        go_wp2
        go_ret
        exact HE.out
      · have d1 : decide (c < 0) = false := decide_eq_false h1
        have h2 : L - c < b := by omega
        have d2 : decide (b > L - c) = true := decide_eq_true h2
        have d3 : decide (L - c < b) = true := decide_eq_true h2
        have wl : IntKind.i64.wrap (L - c) = L - c := IntWalk.i64_in _ (by omega)
        go_enter Try.func19, Try.ntmps19
        go_wp2_with fail
        refine H.out.mono ?_
        rintro e w1 ⟨rfl, rfl⟩
        go_wp2
        go_ret
        exact HE.out
end
end Go.Proofs.Ytjjjeeffllelaaa
