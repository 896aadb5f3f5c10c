/- Contracts of the program's graph: entries that change something, but making. -/
import Derived.Test.YtjjjeeffllelaaaGgB
namespace Go.Proofs.Ytjjjeeffllelaaa
open Go.RowKit

/-- An error, and what it comes to. -/
def ChP (w : World) (g : Nat) (S : Nat → Prop) (G : Gr) (k a b c v : Int) (e : Ending) (w' : World) : Prop :=
  e = .returned (.int .i64 (G.change k a b c v).1) ∧ ∃ S', Pg w' g S' (G.change k a b c v).2 ∧ Mv S S' w w'

theorem chP_err {w : World} {g : Nat} {S : Nat → Prop} {G : Gr} {k a b c v x : Int} (h : Pg w g S G) (e : G.change k a b c v = (x, G)) : ChP w g S G k a b c v (.returned (.int .i64 x)) w := by
  unfold ChP
  rw [e]
  exact ⟨rfl, S, h, Mv.of_below (Below.refl _ _)⟩

section
variable {w : World} {g hb : Nat} {nd : List Pd} {S : Nat → Prop} {G : Gr}

/-- A handle: there is none, or it holds something (0: nothing). -/
theorem IsP.has_ (h : IsP w g hb nd G.hs G.lg) (a : Int) : (G.has a = false ∧ (a < 0 ∨ (G.hs.length : Int) ≤ a)) ∨ ∃ (i : Nat) (x : Int), a = i ∧ G.has a = true ∧ i < G.hs.length ∧ G.hs[i]? = some x ∧ G.held a = x ∧ 0 ≤ x ∧ x ≤ nd.length := by
  cases ha : G.has a
  · left
    refine ⟨rfl, ?_⟩
    unfold Gr.has at ha
    simp at ha
    omega
  · right
    have ha' := ha
    unfold Gr.has at ha
    simp at ha
    obtain ⟨i, rfl⟩ : ∃ i : Nat, a = i := ⟨a.toNat, by omega⟩
    have hl : i < G.hs.length := by omega
    have hx := List.getElem?_eq_getElem hl
    have hin := h.hin _ (List.mem_of_getElem? hx)
    refine ⟨i, _, rfl, rfl, hl, hx, ?_, hin.1, hin.2⟩
    unfold Gr.held
    rw [Int.toNat_natCast, List.getD_eq_getElem?_getD, hx]; rfl

/-- A handle's node: there is no handle, or no node, or the node stands there. -/
theorem IsP.wrong_ (h : IsP w g hb nd G.hs G.lg) (eN : G.ns = nd.map Pd.two) (a : Int) :
    (∃ x, G.wrong a = x ∧ x ≠ 0 ∧ Calls Try.prog 39 #[gP g, .int .i64 a] w fun e w' => e = .returned (.tuple #[.pointer none, .int .i64 x]) ∧ w = w') ∨
    ∃ (i k : Nat) (y : Pd), a = i ∧ G.wrong a = 0 ∧ G.hs[i]? = some ((k + 1 : Nat) : Int) ∧ nd[k]? = some y ∧ G.held a = ((k + 1 : Nat) : Int) ∧ G.node (G.held a) = (y.ps, y.ss) ∧ (G.held a).toNat - 1 = k := by
  rcases h.has_ a with ⟨e, r⟩ | ⟨i, x, rfl, e, hl, hx, hv, x0, x1⟩
  · exact .inl ⟨3, by simp [Gr.wrong, e], by decide, nod_no h r⟩
  · by_cases z : x = 0
    · subst z
      exact .inl ⟨4, by simp [Gr.wrong, e, hv], by decide, nod_nil h hx⟩
    · obtain ⟨k, y, rfl, hy, ey, ek⟩ := nodeP_at eN (x := x) (by omega) x1
      refine .inr ⟨i, k, y, rfl, by simp [Gr.wrong, e, hv]; omega, hx, hy, hv, by rw [hv]; exact ey, by rw [hv]; exact ek⟩

section
variable (w g S G)
variable (a b c v : Int)

set_option maxRecDepth 100000 in
set_option maxHeartbeats 4000000 in
theorem pgClear (r : Pg w g S G) : Calls Try.prog 24 #[gP g, .int .i64 a, .pointer none] w fun e w' => ChP w g S G 6 a b c v e w' := by
  obtain ⟨hb, nd, hi, eN, rfl⟩ := id r
  rcases hi.has_ a with ⟨e, h⟩ | ⟨i, x, rfl, e, hl, hx, hv, x0, x1⟩
  · refine (hold_no hi h none).mono ?_
    rintro e' w' ⟨rfl, rfl⟩
    exact chP_err r (by simp [Gr.change, e])
  · refine (hold_yes hi hl none).mono ?_
    rintro e' w' ⟨rfl, rfl⟩
    have ec : G.change 6 i b c v = (0, G.hold i 0) := by simp [Gr.change, e]
    obtain ⟨h1, mv⟩ := hi.hold i 0 (by decide) (by omega)
    unfold ChP
    rw [ec]
    exact ⟨rfl, _, ⟨hb, nd, by unfold Gr.hold; rw [Int.toNat_natCast]; exact h1, eN, rfl⟩, mv⟩

set_option maxRecDepth 100000 in
set_option maxHeartbeats 4000000 in
theorem pgCopy (r : Pg w g S G) : Calls Try.prog 25 #[gP g, .int .i64 a, .int .i64 b] w fun e w' => ChP w g S G 7 a b c v e w' := by
  obtain ⟨hb, nd, hi, eN, rfl⟩ := id r
  rcases hi.has_ b with ⟨eb, h⟩ | ⟨j, y, rfl, eb, jl, hy, yv, y0, y1⟩
  · have H := Lib.hid (hd_no hi h)
    have HE := Lib.hid (chP_err (k := 7) (a := a) (b := b) (c := c) (v := v) (x := 3) r (by simp [Gr.change, eb]))
    clear h eb hi r eN
    unfold gP at *
    go_enter Try.func25, Try.ntmps25
    go_wp2_with fail
    refine H.out.mono ?_
    rintro e w1 ⟨rfl, rfl⟩
    go_wp2
    go_ret
    exact HE.out
  · have H := Lib.hid (hd_yes hi hy)
    have K : Hid (Calls Try.prog 24 #[gP g, .int .i64 a, ptV (bls nd) y] w fun e w' => ChP w g (pOwn g hb nd) G 7 a j c v e w') := Lib.hid (by
      rcases hi.has_ a with ⟨e, h⟩ | ⟨i, x, rfl, e, hl, hx, hv, x0, x1⟩
      · refine (hold_no hi h (ptA (bls nd) y)).mono ?_
        rintro e' w' ⟨rfl, rfl⟩
        exact chP_err r (by simp [Gr.change, e])
      · refine (hold_yes hi hl (ptA (bls nd) y)).mono ?_
        rintro e' w' ⟨rfl, rfl⟩
        have ec : G.change 7 i j c v = (0, G.hold i y) := by simp [Gr.change, e, eb, yv]
        obtain ⟨h1, mv⟩ := hi.hold i y y0 y1
        unfold ChP
        rw [ec]
        exact ⟨rfl, _, ⟨hb, nd, by unfold Gr.hold; rw [Int.toNat_natCast]; exact h1, eN, rfl⟩, mv⟩)
    clear hi r eN eb hy yv
    unfold gP ptV at *
    go_enter Try.func25, Try.ntmps25
    go_wp2_with fail
    refine H.out.mono ?_
    rintro e w1 ⟨rfl, rfl⟩
    go_wp2_with fail
    refine K.out.mono ?_
    intro e w1 h
    obtain ⟨rfl, h2⟩ := h
    have K2 := Lib.hid h2
    clear h2 K H
    go_wp2
    go_ret
    exact ⟨rfl, K2.out⟩

set_option maxRecDepth 100000 in
set_option maxHeartbeats 8000000 in
theorem pgGet (r : Pg w g S G) : Calls Try.prog 20 #[gP g, .int .i64 a, .int .i64 b, .int .i64 c] w fun e w' => ChP w g S G 2 a b c v e w' := by
  obtain ⟨hb, nd, hi, eN, rfl⟩ := id r
  rcases hi.wrong_ eN b with ⟨x, ew, nx, hC⟩ | ⟨j, k, y, rfl, ew, hy, hk, hv, ey, ek⟩
  · have H := Lib.hid hC
    have q : (x != 0) = true := by simpa using nx
    have HE := Lib.hid (chP_err (k := 2) (a := a) (b := b) (c := c) (v := v) (x := x) r (by simp [Gr.change, ew, nx]))
    clear ew hC nx hi r eN
    unfold gP at *
    go_enter Try.func20, Try.ntmps20
    go_wp2_with fail
    refine H.out.mono ?_
    rintro e w1 ⟨rfl, rfl⟩
    go_wp2
    go_ret
    exact HE.out
  · have H := Lib.hid (nod_yes hi hy hk)
    rcases hi.has_ a with ⟨e, h⟩ | ⟨i, x, rfl, e, hl, hx, xv, x0, x1⟩
    · have K := Lib.hid (hd_no hi h)
      have HE := Lib.hid (chP_err (k := 2) (a := a) (b := j) (c := c) (v := v) (x := 3) r (by simp [Gr.change, ew, e]))
      clear ew e h hi r eN hy hk hv ey ek
      unfold gP at *
      go_enter Try.func20, Try.ntmps20
      go_wp2_with fail
      refine H.out.mono ?_
      rintro e w1 ⟨rfl, rfl⟩
      go_wp2_with fail
      refine K.out.mono ?_
      rintro e w1 ⟨rfl, rfl⟩
      go_wp2
      go_ret
      exact HE.out
    · have K := Lib.hid (hd_yes hi hx)
      have mem := List.mem_of_getElem? hk
      have kb := hi.box y mem
      have c0 := kb.cell 0
      have lb := kb.lt
      have hz := hi.size y mem
      by_cases hc : 0 ≤ c ∧ c < y.ps.length
      · obtain ⟨m, rfl⟩ : ∃ m : Nat, c = m := ⟨c.toNat, by omega⟩
        have hm : m < y.ps.length := by omega
        obtain ⟨z, hz'⟩ : ∃ z, y.ps[m]? = some z := ⟨_, List.getElem?_eq_getElem hm⟩
        have zin := hi.pin y mem z (List.mem_of_getElem? hz')
        have cz : w.cell? ⟨y.pb, m, none⟩ = some (ptV (bls nd) z) := by rw [(hi.ptr y mem).cell]; exact ptVs_at hz'
        have ec : G.change 2 i j m v = (0, G.hold i z) := by
          unfold Gr.change
          rw [if_neg (by decide), if_pos rfl, if_pos ew, if_pos e, ey, if_pos ⟨by omega, by dsimp only; omega⟩, Int.toNat_natCast, List.getD_eq_getElem?_getD, hz']
          rfl
        have L : Hid (Calls Try.prog 24 #[gP g, .int .i64 i, ptV (bls nd) z] w fun e w' => ChP w g (pOwn g hb nd) G 2 i j m v e w') := Lib.hid (by
          refine (hold_yes hi hl (ptA (bls nd) z)).mono ?_
          rintro e' w' ⟨rfl, rfl⟩
          obtain ⟨h1, mv⟩ := hi.hold i z zin.1 zin.2
          unfold ChP
          rw [ec]
          exact ⟨rfl, _, ⟨hb, nd, by unfold Gr.hold; rw [Int.toNat_natCast]; exact h1, eN, rfl⟩, mv⟩)
        have lp := (hi.ptr y mem).lt
        have d0 : decide ((m : Int) < 0) = false := decide_eq_false (by omega)
        have d1 : decide ((m : Int) ≥ (y.ps.length : Int)) = false := decide_eq_false (by omega)
        have d2 : decide ((y.ps.length : Int) ≤ (m : Int)) = false := decide_eq_false (by omega)
        clear hi r eN hy hk hv ey ek hx xv e ew kb hz' ec hc zin x0 x1
        unfold gP ptV pdB at *
        generalize y.ps.length = n at *
        go_enter Try.func20, Try.ntmps20
        go_wp2_with fail
        refine H.out.mono ?_
        rintro e w1 ⟨rfl, rfl⟩
        go_wp2_with fail
        refine K.out.mono ?_
        rintro e w1 ⟨rfl, rfl⟩
        go_wp2_with fail
        refine L.out.mono ?_
        intro e w1 h
        obtain ⟨rfl, h2⟩ := h
        have K2 := Lib.hid h2
        clear h2 K H L
        go_wp2
        go_ret
        exact ⟨rfl, K2.out⟩
      · have ec : G.change 2 i j c v = (5, G) := by
          unfold Gr.change
          rw [if_neg (by decide), if_pos rfl, if_pos ew, if_pos e, ey, if_neg hc]
        have HE := Lib.hid (chP_err r ec)
        clear hi r eN hy hk hv ey ek hx xv e ew kb ec x0 x1
        unfold gP ptV pdB at *
        generalize y.ps.length = n at *
        by_cases h0 : c < 0
        · have d0 : decide (c < 0) = true := decide_eq_true h0
          go_enter Try.func20, Try.ntmps20
          go_wp2_with fail
          refine H.out.mono ?_
          rintro e w1 ⟨rfl, rfl⟩
          go_wp2_with fail
          refine K.out.mono ?_
          rintro e w1 ⟨rfl, rfl⟩
          go_wp2
          go_ret
          exact HE.out
        · have d0 : decide (c < 0) = false := decide_eq_false h0
          have h1 : (n : Int) ≤ c := by omega
          have d1 : decide (c ≥ (n : Int)) = true := decide_eq_true h1
          have d2 : decide ((n : Int) ≤ c) = true := decide_eq_true h1
          go_enter Try.func20, Try.ntmps20
          go_wp2_with fail
          refine H.out.mono ?_
          rintro e w1 ⟨rfl, rfl⟩
          go_wp2_with fail
          refine K.out.mono ?_
          rintro e w1 ⟨rfl, rfl⟩
          go_wp2
          go_ret
          exact HE.out

set_option maxRecDepth 100000 in
set_option maxHeartbeats 8000000 in
theorem pgSet (r : Pg w g S G) : Calls Try.prog 21 #[gP g, .int .i64 a, .int .i64 b, .int .i64 c] w fun e w' => ChP w g S G 3 a b c v e w' := by
  obtain ⟨hb, nd, hi, eN, rfl⟩ := id r
  rcases hi.wrong_ eN a with ⟨x, ew, nx, hC⟩ | ⟨j, k, y, rfl, ew, hy, hk, hv, ey, ek⟩
  · have H := Lib.hid hC
    have q : (x != 0) = true := by simpa using nx
    have HE := Lib.hid (chP_err (k := 3) (a := a) (b := b) (c := c) (v := v) (x := x) r (by simp [Gr.change, ew, nx]))
    clear ew hC nx hi r eN
    unfold gP at *
    go_enter Try.func21, Try.ntmps21
    go_wp2_with fail
    refine H.out.mono ?_
    rintro e w1 ⟨rfl, rfl⟩
    go_wp2
    go_ret
    exact HE.out
  · have H := Lib.hid (nod_yes hi hy hk)
    rcases hi.has_ c with ⟨e, h⟩ | ⟨i, x, rfl, e, hl, hx, xv, x0, x1⟩
    · have K := Lib.hid (hd_no hi h)
      have HE := Lib.hid (chP_err (k := 3) (a := j) (b := b) (c := c) (v := v) (x := 3) r (by simp [Gr.change, ew, e]))
      clear ew e h hi r eN hy hk hv ey ek
      unfold gP at *
      go_enter Try.func21, Try.ntmps21
      go_wp2_with fail
      refine H.out.mono ?_
      rintro e w1 ⟨rfl, rfl⟩
      go_wp2_with fail
      refine K.out.mono ?_
      rintro e w1 ⟨rfl, rfl⟩
      go_wp2
      go_ret
      exact HE.out
    · have K := Lib.hid (hd_yes hi hx)
      have mem := List.mem_of_getElem? hk
      have kb := hi.box y mem
      have c0 := kb.cell 0
      have lb := kb.lt
      have hz := hi.size y mem
      by_cases hc : 0 ≤ b ∧ b < y.ps.length
      · obtain ⟨m, rfl⟩ : ∃ m : Nat, b = m := ⟨b.toNat, by omega⟩
        have hm : m < y.ps.length := by omega
        obtain ⟨z, hz'⟩ : ∃ z, y.ps[m]? = some z := ⟨_, List.getElem?_eq_getElem hm⟩
        have cz : w.cell? ⟨y.pb, m, none⟩ = some (ptV (bls nd) z) := by rw [(hi.ptr y mem).cell]; exact ptVs_at hz'
        have cf := (hi.ptr y mem).frozen
        have ec : G.change 3 j m i v = (0, G.setNode (G.held j) (y.ps.set m x, y.ss)) := by
          unfold Gr.change
          rw [if_neg (by decide), if_neg (by decide), if_pos rfl, if_pos ew, if_pos e, ey, if_pos ⟨by omega, by dsimp only; omega⟩, Int.toNat_natCast, xv]
        have HE : Hid (ChP w g (pOwn g hb nd) G 3 j m i v (.returned (.int .i64 0)) (w.setCell ⟨y.pb, m, none⟩ (ptV (bls nd) x))) := Lib.hid (by
          obtain ⟨h1, mv⟩ := hi.refer hk m x x0 x1
          unfold ChP
          rw [ec]
          refine ⟨rfl, _, ⟨hb, _, h1, ?_, rfl⟩, mv⟩
          unfold Gr.setNode
          rw [ek]
          exact twoP_set eN k ⟨y.ps.set m x, y.ss, y.nb, y.pb, y.sb⟩)
        have lp := (hi.ptr y mem).lt
        have d0 : decide ((m : Int) < 0) = false := decide_eq_false (by omega)
        have d1 : decide ((m : Int) ≥ (y.ps.length : Int)) = false := decide_eq_false (by omega)
        have d2 : decide ((y.ps.length : Int) ≤ (m : Int)) = false := decide_eq_false (by omega)
        clear hi r eN hy hk hv ey ek hx xv e ew kb hz' ec hc x0 x1
        unfold gP ptV pdB at *
        generalize y.ps.length = n at *
        go_enter Try.func21, Try.ntmps21
        go_wp2_with fail
        refine H.out.mono ?_
        rintro e w1 ⟨rfl, rfl⟩
        go_wp2_with fail
        refine K.out.mono ?_
        rintro e w1 ⟨rfl, rfl⟩
        go_wp2
        go_ret
        exact HE.out
      · have ec : G.change 3 j b i v = (5, G) := by
          unfold Gr.change
          rw [if_neg (by decide), if_neg (by decide), if_pos rfl, if_pos ew, if_pos e, ey, if_neg hc]
        have HE := Lib.hid (chP_err r ec)
        clear hi r eN hy hk hv ey ek hx xv e ew kb ec x0 x1
        unfold gP ptV pdB at *
        generalize y.ps.length = n at *
        by_cases h0 : b < 0
        · have d0 : decide (b < 0) = true := decide_eq_true h0
          go_enter Try.func21, Try.ntmps21
          go_wp2_with fail
          refine H.out.mono ?_
          rintro e w1 ⟨rfl, rfl⟩
          go_wp2_with fail
          refine K.out.mono ?_
          rintro e w1 ⟨rfl, rfl⟩
          go_wp2
          go_ret
          exact HE.out
        · have d0 : decide (b < 0) = false := decide_eq_false h0
          have h1 : (n : Int) ≤ b := by omega
          have d1 : decide (b ≥ (n : Int)) = true := decide_eq_true h1
          have d2 : decide ((n : Int) ≤ b) = true := decide_eq_true h1
          go_enter Try.func21, Try.ntmps21
          go_wp2_with fail
          refine H.out.mono ?_
          rintro e w1 ⟨rfl, rfl⟩
          go_wp2_with fail
          refine K.out.mono ?_
          rintro e w1 ⟨rfl, rfl⟩
          go_wp2
          go_ret
          exact HE.out

set_option maxRecDepth 100000 in
set_option maxHeartbeats 8000000 in
theorem pgWrite (r : Pg w g S G) : Calls Try.prog 23 #[gP g, .int .i64 a, .int .i64 b, .int .u64 v] w fun e w' => ChP w g S G 5 a b c v e w' := by
  obtain ⟨hb, nd, hi, eN, rfl⟩ := id r
  have bad : ∀ x, x ≠ 0 → G.change 5 a b c v = (x, G) → (Calls Try.prog 40 #[gP g, .int .i64 a, .int .i64 b] w fun e w' => e = .returned (.tuple #[.pointer none, .int .i64 x]) ∧ w = w') →
      Calls Try.prog 23 #[gP g, .int .i64 a, .int .i64 b, .int .u64 v] w fun e w' => ChP w g (pOwn g hb nd) G 5 a b c v e w' := by
    intro x nx ec hC
    have H := Lib.hid hC
    have q : (x != 0) = true := by simpa using nx
    have HE := Lib.hid (chP_err r ec)
    clear ec hC nx hi r eN
    unfold gP at *
    go_enter Try.func23, Try.ntmps23
    go_wp2_with fail
    refine H.out.mono ?_
    rintro e w1 ⟨rfl, rfl⟩
    go_wp2
    go_ret
    exact HE.out
  rcases hi.wrong_ eN a with ⟨x, ew, nx, hC⟩ | ⟨j, k, y, rfl, ew, hy, hk, hv, ey, ek⟩
  · exact bad x nx (by simp [Gr.change, ew, nx]) (sca_err a b x nx hC)
  · by_cases hc : 0 ≤ b ∧ b < y.ss.length
    · obtain ⟨m, rfl⟩ : ∃ m : Nat, b = m := ⟨b.toNat, by omega⟩
      have hm : m < y.ss.length := by omega
      have mem := List.mem_of_getElem? hk
      have H := Lib.hid (sca_yes hi hy hk hm)
      obtain ⟨z, hz'⟩ : ∃ z, y.ss[m]? = some z := ⟨_, List.getElem?_eq_getElem hm⟩
      have cz : w.cell? ⟨y.sb, m, none⟩ = some (.int .u64 z) := by rw [(hi.sca y mem).cell]; simp [wordsU, hz']
      have cf := (hi.sca y mem).frozen
      have lp := (hi.sca y mem).lt
      have ec : G.change 5 j m c v = (0, G.setNode (G.held j) (y.ps, y.ss.set m v)) := by
        unfold Gr.change
        rw [if_neg (by decide), if_neg (by decide), if_neg (by decide), if_pos rfl, if_pos ew, ey, if_pos ⟨by omega, by dsimp only; omega⟩, Int.toNat_natCast]
      have HE : Hid (ChP w g (pOwn g hb nd) G 5 j m c v (.returned (.int .i64 0)) (w.setCell ⟨y.sb, m, none⟩ (.int .u64 v))) := Lib.hid (by
        obtain ⟨h1, mv⟩ := hi.write hk m v
        unfold ChP
        rw [ec]
        refine ⟨rfl, _, ⟨hb, _, h1, ?_, rfl⟩, mv⟩
        unfold Gr.setNode
        rw [ek]
        exact twoP_set eN k ⟨y.ps, y.ss.set m v, y.nb, y.pb, y.sb⟩)
      clear hi r eN hy hk hv ey ek ew hz' ec hc bad
      unfold gP at *
      go_enter Try.func23, Try.ntmps23
      go_wp2_with fail
      refine H.out.mono ?_
      rintro e w1 ⟨rfl, rfl⟩
      go_wp2
      go_ret
      exact HE.out
    · exact bad 5 (by decide) (by
        unfold Gr.change
        rw [if_neg (by decide), if_neg (by decide), if_neg (by decide), if_pos rfl, if_pos ew, ey, if_neg hc]) (sca_far hi hy hk (by omega))
end
end
end Go.Proofs.Ytjjjeeffllelaaa
