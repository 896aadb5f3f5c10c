
/- Contracts of the document's graph: Do, entries that ask. -/
import Derived.Test.YtjjjeeffllelaaaRgH
namespace Go.Proofs.Ytjjjeeffllelaaa
open Go.RowKit

/-- A step's box and an answer's, and the graph beside them. -/
structure Ax (w W : World) (g : Nat) (S : Nat → Prop) (G : Gr) (k a b c v : Int) : Prop where
  r0 : Rg w g S G
  rg : Rg W g S G
  bel : Below w.heap.size w W
  st : Blk W w.heap.size #[.int .i64 k, .int .i64 a, .int .i64 b, .int .i64 c, .int .u64 v] 33
  an : Blk W (w.heap.size + 1) #[.int .i64 0, .bool false, .int .i64 0, .int .u64 0] 30

theorem ax_make {w : World} {g : Nat} {S : Nat → Prop} {G : Gr} (r : Rg w g S G) (k a b c v : Int) : Ax w ((w.alloc (stB k a b c v)).alloc anB) g S G k a b c v := by
  have al : Below w.heap.size w ((w.alloc (stB k a b c v)).alloc anB) := ((Below.refl _ _).alloc (Nat.le_refl _) _).alloc (by simp) _
  have bx := Blk.new (w.alloc (stB k a b c v)) #[.int .i64 0, .bool false, .int .i64 0, .int .u64 0] 30
  rw [show (w.alloc (stB k a b c v)).heap.size = w.heap.size + 1 by simp] at bx
  exact ⟨r, r.keep al, al, (Blk.new w _ _).alloc _, bx⟩

theorem Ax.keep {w W W' : World} {g : Nat} {S : Nat → Prop} {G : Gr} {k a b c v : Int} (h : Ax w W g S G k a b c v) (f : Below W.heap.size W W') : Ax w W' g S G k a b c v := ⟨h.r0, h.rg.keep f, below_trans h.bel f, h.st.keep f, h.an.keep f⟩

theorem Ax.done {w W : World} {g : Nat} {S : Nat → Prop} {G : Gr} {k a b c v : Int} (h : Ax w W g S G k a b c v) (e : Int) (y : Bool) (n u : Int) :
    DoR w g S G e y n u (.returned (anV e y n u)) (anW W (w.heap.size + 1) e y n u) ∧ Blk (anW W (w.heap.size + 1) e y n u) (w.heap.size + 1) #[.int .i64 e, .bool y, .int .i64 n, .int .u64 u] 30 :=
  ⟨doR_end h.r0 h.bel (Mv.of_below (Below.refl _ _)) h.rg (by omega) h.an.lt e y n u, anW_blk h.an e y n u⟩

/-- The same, said of a world that is drawn once more. -/
theorem DoR.drew {w w' : World} {g : Nat} {S : Nat → Prop} {G : Gr} {e : Int} {y : Bool} {n v : Int} {en : Ending} (h : DoR w g S G e y n v en w') : DoR w g S G e y n v en w'.drew := by
  obtain ⟨h1, S', r, mv⟩ := h
  exact ⟨h1, S', r.keep (below_drew _), mv.post (below_drew _)⟩

section
variable (w : World) (g : Nat) (S : Nat → Prop) (G : Gr) (a b c v : Int)

set_option maxRecDepth 100000 in
set_option maxHeartbeats 8000000 in
theorem rgDo_nil (r : Rg w g S G) : Calls Try.prog 12 #[.pointer (some ⟨g, 0, none⟩), sgV 9 a b c v] w fun e w' => DoR w g S G (G.ask 9 a b).1 (G.ask 9 a b).2.1 (G.ask 9 a b).2.2.1 (G.ask 9 a b).2.2.2 e w' := by
  have HX := Lib.hid (ax_make r 9 a b c v)
  have HH := Lib.hid (rgHas_any _ g S G a HX.out.rg)
  cases hb : G.has a
  · rw [hb] at HH
    have ea : G.ask 9 a b = (3, false, 0, 0) := by simp [Gr.ask, hb]
    rw [ea]
    dsimp only
    clear r ea hb
    go_enter Try.func12, Try.ntmps12
    go_wp2_with fail
    refine HH.out.mono ?_
    rintro e w1 ⟨rfl, rfl⟩
    generalize hW : (w.alloc (stB 9 a b c v)).alloc anB = W at *
    clear hW
    have HE := Lib.hid (HX.out.done 3 false 0 0)
    have z0 := HX.out.an.cell 0
    have z1 := HX.out.an.cell 1
    have z2 := HX.out.an.cell 2
    have z3 := HX.out.an.cell 3
    have zf := HX.out.an.frozen
    have zl := HX.out.an.lt
    have s0 := HX.out.st.cell 0
    have s1 := HX.out.st.cell 1
    have s2 := HX.out.st.cell 2
    have sl := HX.out.st.lt
    clear HX HH
    go_wp2
    unfold anW at HE
    generalize (((W.setCell ⟨w.heap.size + 1, 0, none⟩ (.int .i64 3)).setCell ⟨w.heap.size + 1, 1, none⟩ (.bool false)).setCell ⟨w.heap.size + 1, 2, none⟩ (.int .i64 0)).setCell ⟨w.heap.size + 1, 3, none⟩ (.int .u64 0) = V at HE ⊢
    clear z0 z1 z2 z3 zf
    have y0 := HE.out.2.cell 0
    have y1 := HE.out.2.cell 1
    have y2 := HE.out.2.cell 2
    have y3 := HE.out.2.cell 3
    refine bodyPost_ret (v := anV 3 false 0 0) (by simp [results, Try.results12, go_sem, y0, y1, y2, y3]) rfl ?_
    exact HE.out.1
  · rw [hb] at HH
    obtain ⟨i, x, rfl, hl, hx, hv, x0, x1⟩ := r.at_ hb
    have ea : G.ask 9 i b = (0, x == 0, 0, 0) := by simp [Gr.ask, hb, hv]
    rw [ea]
    dsimp only
    have HV := Lib.hid hx
    clear r hb ea hx hv
    go_enter Try.func12, Try.ntmps12
    go_wp2_with fail
    refine HH.out.mono ?_
    rintro e w1 ⟨rfl, rfl⟩
    generalize hW : (w.alloc (stB 9 i b c v)).alloc anB = W at *
    clear hW
    clear HH
    have HE := Lib.hid (HX.out.done 0 (x == 0) 0 0)
    have z0 := HX.out.an.cell 0
    have z1 := HX.out.an.cell 1
    have z2 := HX.out.an.cell 2
    have z3 := HX.out.an.cell 3
    have zf := HX.out.an.frozen
    have zl := HX.out.an.lt
    have s0 := HX.out.st.cell 0
    have s1 := HX.out.st.cell 1
    have s2 := HX.out.st.cell 2
    have sl := HX.out.st.lt
    obtain ⟨vN, hA, hc, nd, hi, eN, eS⟩ := HX.out.rg
    clear eS
    obtain ⟨c0, c1, c2, cf⟩ := hi.four
    have gl := hi.blk.lt
    obtain ⟨q, off, rfl, lq, hcx, _⟩ := hi.hrow.at_ (by omega)
    have hf := hi.hfew
    have cx := hcx i x HV.out
    generalize G.hs.length = n at c1 hl hf
    clear hi eN hcx HX c0 c2 HV
    go_wp2_with fail
    go_region
    unfold anW at HE
    generalize (((W.setCell ⟨w.heap.size + 1, 0, none⟩ (.int .i64 0)).setCell ⟨w.heap.size + 1, 1, none⟩ (.bool (x == 0))).setCell ⟨w.heap.size + 1, 2, none⟩ (.int .i64 0)).setCell ⟨w.heap.size + 1, 3, none⟩ (.int .u64 0) = V at HE ⊢
    clear z0 z1 z2 z3 zf
    have y0 := HE.out.2.cell 0
    have y1 := HE.out.2.cell 1
    have y2 := HE.out.2.cell 2
    have y3 := HE.out.2.cell 3
    have y0 : V.drew.cell? ⟨w.heap.size + 1, 0, none⟩ = _ := y0
    have y1 : V.drew.cell? ⟨w.heap.size + 1, 1, none⟩ = _ := y1
    have y2 : V.drew.cell? ⟨w.heap.size + 1, 2, none⟩ = _ := y2
    have y3 : V.drew.cell? ⟨w.heap.size + 1, 3, none⟩ = _ := y3
    go_wp2
    refine bodyPost_ret (v := anV 0 (x == 0) 0 0) (by simp [results, Try.results12, go_sem, y0, y1, y2, y3]) rfl ?_
    exact HE.out.1.drew

set_option maxRecDepth 100000 in
set_option maxHeartbeats 8000000 in
theorem rgDo_same (r : Rg w g S G) : Calls Try.prog 12 #[.pointer (some ⟨g, 0, none⟩), sgV 8 a b c v] w fun e w' => DoR w g S G (G.ask 8 a b).1 (G.ask 8 a b).2.1 (G.ask 8 a b).2.2.1 (G.ask 8 a b).2.2.2 e w' := by
  have HX := Lib.hid (ax_make r 8 a b c v)
  have HH := Lib.hid (rgHas_any _ g S G a HX.out.rg)
  have HB := Lib.hid (rgHas_any _ g S G b HX.out.rg)
  cases ha : G.has a
  · rw [ha] at HH
    clear HB
    have ea : G.ask 8 a b = (3, false, 0, 0) := by simp [Gr.ask, ha]
    rw [ea]
    dsimp only
    clear r ea ha
    go_enter Try.func12, Try.ntmps12
    go_wp2_with fail
    refine HH.out.mono ?_
    rintro e w1 ⟨rfl, rfl⟩
    generalize hW : (w.alloc (stB 8 a b c v)).alloc anB = W at *
    clear hW
    have HE := Lib.hid (HX.out.done 3 false 0 0)
    have z0 := HX.out.an.cell 0
    have z1 := HX.out.an.cell 1
    have z2 := HX.out.an.cell 2
    have z3 := HX.out.an.cell 3
    have zf := HX.out.an.frozen
    have zl := HX.out.an.lt
    have s0 := HX.out.st.cell 0
    have s1 := HX.out.st.cell 1
    have s2 := HX.out.st.cell 2
    have sl := HX.out.st.lt
    clear HX HH
    go_wp2
    unfold anW at HE
    generalize (((W.setCell ⟨w.heap.size + 1, 0, none⟩ (.int .i64 3)).setCell ⟨w.heap.size + 1, 1, none⟩ (.bool false)).setCell ⟨w.heap.size + 1, 2, none⟩ (.int .i64 0)).setCell ⟨w.heap.size + 1, 3, none⟩ (.int .u64 0) = V at HE ⊢
    clear z0 z1 z2 z3 zf
    have y0 := HE.out.2.cell 0
    have y1 := HE.out.2.cell 1
    have y2 := HE.out.2.cell 2
    have y3 := HE.out.2.cell 3
    refine bodyPost_ret (v := anV 3 false 0 0) (by simp [results, Try.results12, go_sem, y0, y1, y2, y3]) rfl ?_
    exact HE.out.1
  · rw [ha] at HH
    cases hb : G.has b
    · rw [hb] at HB
      have ea : G.ask 8 a b = (3, false, 0, 0) := by simp [Gr.ask, ha, hb]
      rw [ea]
      dsimp only
      clear r ea ha hb
      go_enter Try.func12, Try.ntmps12
      go_wp2_with fail
      refine HH.out.mono ?_
      rintro e w1 ⟨rfl, rfl⟩
      go_wp2_with fail
      refine HB.out.mono ?_
      rintro e w1 ⟨rfl, rfl⟩
      generalize hW : (w.alloc (stB 8 a b c v)).alloc anB = W at *
      clear hW
      have HE := Lib.hid (HX.out.done 3 false 0 0)
      have z0 := HX.out.an.cell 0
      have z1 := HX.out.an.cell 1
      have z2 := HX.out.an.cell 2
      have z3 := HX.out.an.cell 3
      have zf := HX.out.an.frozen
      have zl := HX.out.an.lt
      have s0 := HX.out.st.cell 0
      have s1 := HX.out.st.cell 1
      have s2 := HX.out.st.cell 2
      have sl := HX.out.st.lt
      clear HX HH HB
      go_wp2
      unfold anW at HE
      generalize (((W.setCell ⟨w.heap.size + 1, 0, none⟩ (.int .i64 3)).setCell ⟨w.heap.size + 1, 1, none⟩ (.bool false)).setCell ⟨w.heap.size + 1, 2, none⟩ (.int .i64 0)).setCell ⟨w.heap.size + 1, 3, none⟩ (.int .u64 0) = V at HE ⊢
      clear z0 z1 z2 z3 zf
      have y0 := HE.out.2.cell 0
      have y1 := HE.out.2.cell 1
      have y2 := HE.out.2.cell 2
      have y3 := HE.out.2.cell 3
      refine bodyPost_ret (v := anV 3 false 0 0) (by simp [results, Try.results12, go_sem, y0, y1, y2, y3]) rfl ?_
      exact HE.out.1
    · rw [hb] at HB
      obtain ⟨i, x, rfl, hl, hx, hv, x0, x1⟩ := r.at_ ha
      obtain ⟨j, y, rfl, jl, hy, yv, y0, y1⟩ := r.at_ hb
      have ea : G.ask 8 i j = (0, x == y, 0, 0) := by simp [Gr.ask, ha, hb, hv, yv]
      rw [ea]
      dsimp only
      have HV := Lib.hid (And.intro hx hy)
      clear r ha hb ea hx hv hy yv x0 x1 y0 y1
      go_enter Try.func12, Try.ntmps12
      go_wp2_with fail
      refine HH.out.mono ?_
      rintro e w1 ⟨rfl, rfl⟩
      go_wp2_with fail
      refine HB.out.mono ?_
      rintro e w1 ⟨rfl, rfl⟩
      generalize hW : (w.alloc (stB 8 i j c v)).alloc anB = W at *
      clear hW
      clear HH HB
      have HE := Lib.hid (HX.out.done 0 (x == y) 0 0)
      have z0 := HX.out.an.cell 0
      have z1 := HX.out.an.cell 1
      have z2 := HX.out.an.cell 2
      have z3 := HX.out.an.cell 3
      have zf := HX.out.an.frozen
      have zl := HX.out.an.lt
      have s0 := HX.out.st.cell 0
      have s1 := HX.out.st.cell 1
      have s2 := HX.out.st.cell 2
      have sl := HX.out.st.lt
      obtain ⟨vN, hA, hc, nd, hi, eN, eS⟩ := HX.out.rg
      clear eS
      obtain ⟨c0, c1, c2, cf⟩ := hi.four
      have gl := hi.blk.lt
      obtain ⟨q, off, rfl, lq, hcx, _⟩ := hi.hrow.at_ (by omega)
      have hf := hi.hfew
      have cx := hcx i x HV.out.1
      have cy := hcx j y HV.out.2
      generalize G.hs.length = n at c1 hl jl hf
      clear hi eN hcx HX c0 c2 HV
      go_wp2_with fail
      go_region
      unfold anW at HE
      generalize (((W.setCell ⟨w.heap.size + 1, 0, none⟩ (.int .i64 0)).setCell ⟨w.heap.size + 1, 1, none⟩ (.bool (x == y))).setCell ⟨w.heap.size + 1, 2, none⟩ (.int .i64 0)).setCell ⟨w.heap.size + 1, 3, none⟩ (.int .u64 0) = V at HE ⊢
      clear z0 z1 z2 z3 zf
      have y0 := HE.out.2.cell 0
      have y1 := HE.out.2.cell 1
      have y2 := HE.out.2.cell 2
      have y3 := HE.out.2.cell 3
      have y0 : V.drew.cell? ⟨w.heap.size + 1, 0, none⟩ = _ := y0
      have y1 : V.drew.cell? ⟨w.heap.size + 1, 1, none⟩ = _ := y1
      have y2 : V.drew.cell? ⟨w.heap.size + 1, 2, none⟩ = _ := y2
      have y3 : V.drew.cell? ⟨w.heap.size + 1, 3, none⟩ = _ := y3
      go_wp2
      refine bodyPost_ret (v := anV 0 (x == y) 0 0) (by simp [results, Try.results12, go_sem, y0, y1, y2, y3]) rfl ?_
      exact HE.out.1.drew

set_option maxRecDepth 100000 in
set_option maxHeartbeats 8000000 in
theorem rgDo_shape (r : Rg w g S G) : Calls Try.prog 12 #[.pointer (some ⟨g, 0, none⟩), sgV 10 a b c v] w fun e w' => DoR w g S G (G.ask 10 a b).1 (G.ask 10 a b).2.1 (G.ask 10 a b).2.2.1 (G.ask 10 a b).2.2.2 e w' := by
  have HX := Lib.hid (ax_make r 10 a b c v)
  have HW := Lib.hid (rgWrong_any _ g S G a HX.out.rg)
  by_cases hw : G.wrong a = 0
  · rw [hw] at HW
    obtain ⟨hb, hn⟩ := wrong_zero hw
    obtain ⟨j, y, rfl, jl, hy, yv, y0, y1⟩ := r.at_ hb
    rw [yv] at hn
    have HV := Lib.hid (And.intro hy (And.intro yv hw))
    clear r hb hy
    go_enter Try.func12, Try.ntmps12
    go_wp2_with fail
    refine HW.out.mono ?_
    rintro e w1 ⟨rfl, rfl⟩
    generalize hW : (w.alloc (stB 10 j b c v)).alloc anB = W at *
    clear hW
    clear HW
    have z0 := HX.out.an.cell 0
    have z1 := HX.out.an.cell 1
    have z2 := HX.out.an.cell 2
    have z3 := HX.out.an.cell 3
    have zf := HX.out.an.frozen
    have zl := HX.out.an.lt
    have s0 := HX.out.st.cell 0
    have s1 := HX.out.st.cell 1
    have s2 := HX.out.st.cell 2
    have sl := HX.out.st.lt
    obtain ⟨vN, hA, hc, nd, hi, eN, eS⟩ := HX.out.rg
    clear eS
    obtain ⟨c0, c1, c2, cf⟩ := hi.four
    have gl := hi.blk.lt
    obtain ⟨q, off, rfl, lq, hcx, _⟩ := hi.hrow.at_ (by omega)
    have hf := hi.hfew
    obtain ⟨p, z, rfl, hz, ez, _⟩ := node_at eN (x := y) (by omega) (by rw [eN, List.length_map] at y1; exact y1)
    obtain ⟨nb, nc, cur, rfl, hnb, n1, n2, hcn⟩ := hi.row
    have cy := hcx j _ HV.out.1
    have z4 : W.cell? ⟨nb, (p + 1) * 2, none⟩ = some (.slice (some ⟨z.pb, 0, none⟩) z.ps.length z.ps.length) := by rw [hnb.cell]; exact hcn p 0 z hz (by decide)
    have z5 : W.cell? ⟨nb, (p + 1) * 2 + 1, none⟩ = some (.slice (some ⟨z.sb, 0, none⟩) z.ss.length z.ss.length) := by rw [hnb.cell]; exact hcn p 1 z hz (by decide)
    have ln := hnb.lt
    have hp : p + 1 < nd.length + 1 := by have := (List.getElem?_eq_some_iff.1 hz).1; omega
    have few : nd.length + 1 ≤ 1048577 := by have := hi.few; omega
    have zs := hi.size z (List.mem_of_getElem? hz)
    have HN := Lib.hid (And.intro hz ez)
    have HS1 := Lib.hid (hi.sca z (List.mem_of_getElem? hz))
    unfold maxLen at n2
    obtain ⟨N, hN⟩ : ∃ N, nd.length + 1 = N := ⟨_, rfl⟩
    obtain ⟨P, hP⟩ : ∃ P, p + 1 = P := ⟨_, rfl⟩
    rw [hN] at c0 hp few n1
    rw [hP] at cy z4 z5 hp
    generalize G.hs.length = n at c1 jl hf
    clear hcn hnb hcx hi hz ez eN hN y0 y1 hn
    go_wp2_with fail
    go_region
    clear z0 z1 z2 z3 zf zl s0 s1 s2 sl c0 c1 c2 cf gl z4 z5 ln cy hf n1 n2 hp hP few
    have HX := Lib.hid ((HX.out.keep ((Below.refl W.heap.size W).alloc (Nat.le_refl _) (.cells #[.slice (some ⟨z.pb, 0, none⟩) z.ps.length z.ps.length, .slice (some ⟨z.sb, 0, none⟩) z.ss.length z.ss.length] 45))).keep (below_drew _))
    have HB := Lib.hid (Blk.new W #[.slice (some ⟨z.pb, 0, none⟩) z.ps.length z.ps.length, .slice (some ⟨z.sb, 0, none⟩) z.ss.length z.ss.length] 45).drew
    have HS2 := Lib.hid (HS1.out.keep (below_trans ((Below.refl W.heap.size W).alloc (Nat.le_refl _) (.cells #[.slice (some ⟨z.pb, 0, none⟩) z.ps.length z.ps.length, .slice (some ⟨z.sb, 0, none⟩) z.ss.length z.ss.length] 45)) (below_drew _)))
    generalize (W.alloc (.cells #[.slice (some ⟨z.pb, 0, none⟩) z.ps.length z.ps.length, .slice (some ⟨z.sb, 0, none⟩) z.ss.length z.ss.length] 45)).drew = V0 at HX HB HS2 ⊢
    have HS := Lib.hid (fun F u (hu : z.ss[F]? = some u) => (show V0.cell? ⟨z.sb, F, none⟩ = some (.int .u64 u) from by rw [HS2.out.cell]; simp [wordsU, hu]))
    clear HS1 HS2
    generalize W.heap.size = nbk at HB ⊢
    have ea : G.ask 10 j b = (0, false, (z.ps.length : Int), (z.ss.length : Int)) := by
      unfold Gr.ask
      rw [if_neg (by decide), if_pos rfl, if_pos HV.out.2.2, HV.out.2.1, HN.out.2]
    have EA := Lib.hid ea
    have HE := Lib.hid (HX.out.done 0 false z.ps.length z.ss.length)
    have z0 := HX.out.an.cell 0
    have z1 := HX.out.an.cell 1
    have z2 := HX.out.an.cell 2
    have z3 := HX.out.an.cell 3
    have zf := HX.out.an.frozen
    have zl := HX.out.an.lt
    have s0 := HX.out.st.cell 0
    have s1 := HX.out.st.cell 1
    have s2 := HX.out.st.cell 2
    have sl := HX.out.st.lt
    have d0 := HB.out.cell 0
    have d1 := HB.out.cell 1
    have wv : IntKind.u64.wrap (z.ss.length : Int) = (z.ss.length : Int) := by rw [IntKind.wrap_u64]; omega
    clear HX HB HN HV HS ea
    go_wp2
    unfold anW at HE
    generalize (((V0.setCell ⟨w.heap.size + 1, 0, none⟩ (.int .i64 0)).setCell ⟨w.heap.size + 1, 1, none⟩ (.bool false)).setCell ⟨w.heap.size + 1, 2, none⟩ (.int .i64 z.ps.length)).setCell ⟨w.heap.size + 1, 3, none⟩ (.int .u64 z.ss.length) = V at HE ⊢
    clear z0 z1 z2 z3 zf
    have y0 := HE.out.2.cell 0
    have y1 := HE.out.2.cell 1
    have y2 := HE.out.2.cell 2
    have y3 := HE.out.2.cell 3
    refine bodyPost_ret (v := anV 0 false z.ps.length z.ss.length) (by simp [results, Try.results12, go_sem, y0, y1, y2, y3]) rfl ?_
    rw [EA.out]
    exact HE.out.1
  · have ea : G.ask 10 a b = (G.wrong a, false, 0, 0) := by simp [Gr.ask, hw]
    rw [ea]
    dsimp only
    clear r ea
    generalize G.wrong a = eb at *
    go_enter Try.func12, Try.ntmps12
    go_wp2_with fail
    refine HW.out.mono ?_
    rintro e w1 ⟨rfl, rfl⟩
    generalize hW : (w.alloc (stB 10 a b c v)).alloc anB = W at *
    clear hW
    have HE := Lib.hid (HX.out.done eb false 0 0)
    have z0 := HX.out.an.cell 0
    have z1 := HX.out.an.cell 1
    have z2 := HX.out.an.cell 2
    have z3 := HX.out.an.cell 3
    have zf := HX.out.an.frozen
    have zl := HX.out.an.lt
    have s0 := HX.out.st.cell 0
    have s1 := HX.out.st.cell 1
    have s2 := HX.out.st.cell 2
    have sl := HX.out.st.lt
    clear HX HW
    go_wp2
    unfold anW at HE
    generalize (((W.setCell ⟨w.heap.size + 1, 0, none⟩ (.int .i64 eb)).setCell ⟨w.heap.size + 1, 1, none⟩ (.bool false)).setCell ⟨w.heap.size + 1, 2, none⟩ (.int .i64 0)).setCell ⟨w.heap.size + 1, 3, none⟩ (.int .u64 0) = V at HE ⊢
    clear z0 z1 z2 z3 zf
    have y0 := HE.out.2.cell 0
    have y1 := HE.out.2.cell 1
    have y2 := HE.out.2.cell 2
    have y3 := HE.out.2.cell 3
    refine bodyPost_ret (v := anV eb false 0 0) (by simp [results, Try.results12, go_sem, y0, y1, y2, y3]) rfl ?_
    exact HE.out.1

set_option maxRecDepth 100000 in
set_option maxHeartbeats 8000000 in
theorem rgDo_read (r : Rg w g S G) : Calls Try.prog 12 #[.pointer (some ⟨g, 0, none⟩), sgV 4 a b c v] w fun e w' => DoR w g S G (G.ask 4 a b).1 (G.ask 4 a b).2.1 (G.ask 4 a b).2.2.1 (G.ask 4 a b).2.2.2 e w' := by
  have HX := Lib.hid (ax_make r 4 a b c v)
  have HW := Lib.hid (rgWrong_any _ g S G a HX.out.rg)
  by_cases hw : G.wrong a = 0
  · rw [hw] at HW
    obtain ⟨hb, hn⟩ := wrong_zero hw
    obtain ⟨j, y, rfl, jl, hy, yv, y0, y1⟩ := r.at_ hb
    rw [yv] at hn
    have HV := Lib.hid (And.intro hy (And.intro yv hw))
    clear r hb hy
    go_enter Try.func12, Try.ntmps12
    go_wp2_with fail
    refine HW.out.mono ?_
    rintro e w1 ⟨rfl, rfl⟩
    generalize hW : (w.alloc (stB 4 j b c v)).alloc anB = W at *
    clear hW
    clear HW
    have z0 := HX.out.an.cell 0
    have z1 := HX.out.an.cell 1
    have z2 := HX.out.an.cell 2
    have z3 := HX.out.an.cell 3
    have zf := HX.out.an.frozen
    have zl := HX.out.an.lt
    have s0 := HX.out.st.cell 0
    have s1 := HX.out.st.cell 1
    have s2 := HX.out.st.cell 2
    have sl := HX.out.st.lt
    obtain ⟨vN, hA, hc, nd, hi, eN, eS⟩ := HX.out.rg
    clear eS
    obtain ⟨c0, c1, c2, cf⟩ := hi.four
    have gl := hi.blk.lt
    obtain ⟨q, off, rfl, lq, hcx, _⟩ := hi.hrow.at_ (by omega)
    have hf := hi.hfew
    obtain ⟨p, z, rfl, hz, ez, _⟩ := node_at eN (x := y) (by omega) (by rw [eN, List.length_map] at y1; exact y1)
    obtain ⟨nb, nc, cur, rfl, hnb, n1, n2, hcn⟩ := hi.row
    have cy := hcx j _ HV.out.1
    have z4 : W.cell? ⟨nb, (p + 1) * 2, none⟩ = some (.slice (some ⟨z.pb, 0, none⟩) z.ps.length z.ps.length) := by rw [hnb.cell]; exact hcn p 0 z hz (by decide)
    have z5 : W.cell? ⟨nb, (p + 1) * 2 + 1, none⟩ = some (.slice (some ⟨z.sb, 0, none⟩) z.ss.length z.ss.length) := by rw [hnb.cell]; exact hcn p 1 z hz (by decide)
    have ln := hnb.lt
    have hp : p + 1 < nd.length + 1 := by have := (List.getElem?_eq_some_iff.1 hz).1; omega
    have few : nd.length + 1 ≤ 1048577 := by have := hi.few; omega
    have zs := hi.size z (List.mem_of_getElem? hz)
    have HN := Lib.hid (And.intro hz ez)
    have HS1 := Lib.hid (hi.sca z (List.mem_of_getElem? hz))
    unfold maxLen at n2
    obtain ⟨N, hN⟩ : ∃ N, nd.length + 1 = N := ⟨_, rfl⟩
    obtain ⟨P, hP⟩ : ∃ P, p + 1 = P := ⟨_, rfl⟩
    rw [hN] at c0 hp few n1
    rw [hP] at cy z4 z5 hp
    generalize G.hs.length = n at c1 jl hf
    clear hcn hnb hcx hi hz ez eN hN y0 y1 hn
    go_wp2_with fail
    go_region
    clear z0 z1 z2 z3 zf zl s0 s1 s2 sl c0 c1 c2 cf gl z4 z5 ln cy hf n1 n2 hp hP few
    have HX := Lib.hid ((HX.out.keep ((Below.refl W.heap.size W).alloc (Nat.le_refl _) (.cells #[.slice (some ⟨z.pb, 0, none⟩) z.ps.length z.ps.length, .slice (some ⟨z.sb, 0, none⟩) z.ss.length z.ss.length] 45))).keep (below_drew _))
    have HB := Lib.hid (Blk.new W #[.slice (some ⟨z.pb, 0, none⟩) z.ps.length z.ps.length, .slice (some ⟨z.sb, 0, none⟩) z.ss.length z.ss.length] 45).drew
    have HS2 := Lib.hid (HS1.out.keep (below_trans ((Below.refl W.heap.size W).alloc (Nat.le_refl _) (.cells #[.slice (some ⟨z.pb, 0, none⟩) z.ps.length z.ps.length, .slice (some ⟨z.sb, 0, none⟩) z.ss.length z.ss.length] 45)) (below_drew _)))
    generalize (W.alloc (.cells #[.slice (some ⟨z.pb, 0, none⟩) z.ps.length z.ps.length, .slice (some ⟨z.sb, 0, none⟩) z.ss.length z.ss.length] 45)).drew = V0 at HX HB HS2 ⊢
    have HS := Lib.hid (fun F u (hu : z.ss[F]? = some u) => (show V0.cell? ⟨z.sb, F, none⟩ = some (.int .u64 u) from by rw [HS2.out.cell]; simp [wordsU, hu]))
    clear HS1 HS2
    generalize W.heap.size = nbk at HB ⊢
    obtain ⟨mm, hmm⟩ : ∃ mm, z.ss.length = mm := ⟨_, rfl⟩
    have d1 : V0.cell? ⟨nbk, 1, none⟩ = some (.slice (some ⟨z.sb, 0, none⟩) mm mm) := by rw [HB.out.cell 1, ← hmm]; rfl
    have m64 : mm ≤ 64 := by have := zs; omega
    clear HB zs
    by_cases hfi : 0 ≤ b ∧ b < mm
    · obtain ⟨F, rfl⟩ : ∃ F : Nat, b = F := ⟨b.toNat, by omega⟩
      have fl : F < mm := by omega
      obtain ⟨u, hu⟩ : ∃ u, z.ss[F]? = some u := ⟨_, List.getElem?_eq_getElem (by omega)⟩
      have pc : V0.cell? ⟨z.sb, F, none⟩ = some (.int .u64 u) := HS.out F u hu
      have EA := Lib.hid (show G.ask 4 j F = (0, false, 0, u) from by
        unfold Gr.ask
        rw [if_pos rfl, if_pos HV.out.2.2, HV.out.2.1, HN.out.2, if_pos ⟨by omega, by simp only [hmm]; omega⟩, Int.toNat_natCast, List.getD_eq_getElem?_getD, hu]; rfl)
      have HE := Lib.hid (HX.out.done 0 false 0 u)
      have z0 := HX.out.an.cell 0
      have z1 := HX.out.an.cell 1
      have z2 := HX.out.an.cell 2
      have z3 := HX.out.an.cell 3
      have zf := HX.out.an.frozen
      have zl := HX.out.an.lt
      have s0 := HX.out.st.cell 0
      have s1 := HX.out.st.cell 1
      have s2 := HX.out.st.cell 2
      have sl := HX.out.st.lt
      clear HX HN HV HS hu hmm hfi
      go_wp2
      unfold anW at HE
      generalize (((V0.setCell ⟨w.heap.size + 1, 0, none⟩ (.int .i64 0)).setCell ⟨w.heap.size + 1, 1, none⟩ (.bool false)).setCell ⟨w.heap.size + 1, 2, none⟩ (.int .i64 0)).setCell ⟨w.heap.size + 1, 3, none⟩ (.int .u64 u) = V at HE ⊢
      clear z0 z1 z2 z3 zf
      have y0 := HE.out.2.cell 0
      have y1 := HE.out.2.cell 1
      have y2 := HE.out.2.cell 2
      have y3 := HE.out.2.cell 3
      refine bodyPost_ret (v := anV 0 false 0 u) (by simp [results, Try.results12, go_sem, y0, y1, y2, y3]) rfl ?_
      rw [EA.out]
      exact HE.out.1
    · have EA := Lib.hid (show G.ask 4 j b = (5, false, 0, 0) from by
        unfold Gr.ask
        rw [if_pos rfl, if_pos HV.out.2.2, HV.out.2.1, HN.out.2, if_neg (by simp only [hmm]; exact hfi)])
      have HE := Lib.hid (HX.out.done 5 false 0 0)
      have z0 := HX.out.an.cell 0
      have z1 := HX.out.an.cell 1
      have z2 := HX.out.an.cell 2
      have z3 := HX.out.an.cell 3
      have zf := HX.out.an.frozen
      have zl := HX.out.an.lt
      have s0 := HX.out.st.cell 0
      have s1 := HX.out.st.cell 1
      have s2 := HX.out.st.cell 2
      have sl := HX.out.st.lt
      clear HX HN HV HS hmm
      by_cases hz0 : b < 0
      · go_wp2
        unfold anW at HE
        generalize (((V0.setCell ⟨w.heap.size + 1, 0, none⟩ (.int .i64 5)).setCell ⟨w.heap.size + 1, 1, none⟩ (.bool false)).setCell ⟨w.heap.size + 1, 2, none⟩ (.int .i64 0)).setCell ⟨w.heap.size + 1, 3, none⟩ (.int .u64 0) = V at HE ⊢
        clear z0 z1 z2 z3 zf
        have y0 := HE.out.2.cell 0
        have y1 := HE.out.2.cell 1
        have y2 := HE.out.2.cell 2
        have y3 := HE.out.2.cell 3
        refine bodyPost_ret (v := anV 5 false 0 0) (by simp [results, Try.results12, go_sem, y0, y1, y2, y3]) rfl ?_
        rw [EA.out]
        exact HE.out.1
      · have hz1 : (mm : Int) ≤ b := by omega
        go_wp2
        unfold anW at HE
        generalize (((V0.setCell ⟨w.heap.size + 1, 0, none⟩ (.int .i64 5)).setCell ⟨w.heap.size + 1, 1, none⟩ (.bool false)).setCell ⟨w.heap.size + 1, 2, none⟩ (.int .i64 0)).setCell ⟨w.heap.size + 1, 3, none⟩ (.int .u64 0) = V at HE ⊢
        clear z0 z1 z2 z3 zf
        have y0 := HE.out.2.cell 0
        have y1 := HE.out.2.cell 1
        have y2 := HE.out.2.cell 2
        have y3 := HE.out.2.cell 3
        refine bodyPost_ret (v := anV 5 false 0 0) (by simp [results, Try.results12, go_sem, y0, y1, y2, y3]) rfl ?_
        rw [EA.out]
        exact HE.out.1
  · have ea : G.ask 4 a b = (G.wrong a, false, 0, 0) := by simp [Gr.ask, hw]
    rw [ea]
    dsimp only
    clear r ea
    generalize G.wrong a = eb at *
    go_enter Try.func12, Try.ntmps12
    go_wp2_with fail
    refine HW.out.mono ?_
    rintro e w1 ⟨rfl, rfl⟩
    generalize hW : (w.alloc (stB 4 a b c v)).alloc anB = W at *
    clear hW
    have HE := Lib.hid (HX.out.done eb false 0 0)
    have z0 := HX.out.an.cell 0
    have z1 := HX.out.an.cell 1
    have z2 := HX.out.an.cell 2
    have z3 := HX.out.an.cell 3
    have zf := HX.out.an.frozen
    have zl := HX.out.an.lt
    have s0 := HX.out.st.cell 0
    have s1 := HX.out.st.cell 1
    have s2 := HX.out.st.cell 2
    have sl := HX.out.st.lt
    clear HX HW
    go_wp2
    unfold anW at HE
    generalize (((W.setCell ⟨w.heap.size + 1, 0, none⟩ (.int .i64 eb)).setCell ⟨w.heap.size + 1, 1, none⟩ (.bool false)).setCell ⟨w.heap.size + 1, 2, none⟩ (.int .i64 0)).setCell ⟨w.heap.size + 1, 3, none⟩ (.int .u64 0) = V at HE ⊢
    clear z0 z1 z2 z3 zf
    have y0 := HE.out.2.cell 0
    have y1 := HE.out.2.cell 1
    have y2 := HE.out.2.cell 2
    have y3 := HE.out.2.cell 3
    refine bodyPost_ret (v := anV eb false 0 0) (by simp [results, Try.results12, go_sem, y0, y1, y2, y3]) rfl ?_
    exact HE.out.1
end
end Go.Proofs.Ytjjjeeffllelaaa
