
/- Contracts of the document's graph: Get, Set, Write. -/
import Derived.Test.YtjjjeeffllelaaaRgD
namespace Go.Proofs.Ytjjjeeffllelaaa
open Go.RowKit

theorem Rg.intro {w : World} {g : Nat} {G : Gr} {vN : Value} {hA : Option Addr} {hc : Nat} {nd : List Nd} (h : IsG w g vN hA hc nd G.hs G.lg) (e : G.ns = nd.map Nd.two) : Rg w g (gOwn g vN hA nd) G := ⟨vN, hA, hc, nd, h, e, rfl⟩

set_option maxRecDepth 100000 in
set_option maxHeartbeats 8000000 in
theorem rgGet (w : World) (g : Nat) (S : Nat → Prop) (G : Gr) (a b c v : Int) (r : Rg w g S G) : Calls Try.prog 30 #[.pointer (some ⟨g, 0, none⟩), sgV 2 a b c v] w fun e w' => ChR w g S G 2 a b c v e w' := by
  have al : Below w.heap.size w (w.alloc (stB 2 a b c v)) := (Below.refl _ _).alloc (Nat.le_refl _) _
  have HW := Lib.hid (rgWrong_any _ g S G b (r.keep al))
  have HH := Lib.hid (rgHas_any _ g S G a (r.keep al))
  by_cases hw : G.wrong b = 0
  · rw [hw] at HW
    cases ha : G.has a
    · rw [ha] at HH
      have HE := Lib.hid (chR_err (k := 2) (a := a) (b := b) (c := c) (v := v) (x := 3) r al (by simp [Gr.change, hw, ha]))
      clear r hw ha al
      go_enter Try.func30, Try.ntmps30
      go_wp2_with fail
      refine HW.out.mono ?_
      rintro e w1 ⟨rfl, rfl⟩
      go_wp2_with fail
      refine HH.out.mono ?_
      rintro e w1 ⟨rfl, rfl⟩
      go_wp2
      go_ret
      exact HE.out
    · rw [ha] at HH
      obtain ⟨hb, hn⟩ := wrong_zero hw
      obtain ⟨i, x, rfl, hl, hx, hv, x0, x1⟩ := r.at_ ha
      obtain ⟨j, y, rfl, jl, hy, yv, y0, y1⟩ := r.at_ hb
      obtain ⟨vN, hA, hc, nd, hi, eN, rfl⟩ := r
      rw [yv] at hn
      obtain ⟨p, z, rfl, hz, ez, ep⟩ := node_at eN (x := y) (by omega) (by rw [eN, List.length_map] at y1; exact y1)
      have hk := hi.keep al
      obtain ⟨q, off, rfl, _, hcx, hfz⟩ := hk.hrow.at_ (by omega)
      obtain ⟨nb, nc, cur, rfl, hnb, n1, n2, hcn⟩ := hk.row
      have cy := hcx j _ hy
      have z0 : (w.alloc (stB 2 i j c v)).cell? ⟨nb, (p + 1) * 2, none⟩ = some (.slice (some ⟨z.pb, 0, none⟩) z.ps.length z.ps.length) := by rw [hnb.cell]; exact hcn p 0 z hz (by decide)
      have z1 : (w.alloc (stB 2 i j c v)).cell? ⟨nb, (p + 1) * 2 + 1, none⟩ = some (.slice (some ⟨z.sb, 0, none⟩) z.ss.length z.ss.length) := by rw [hnb.cell]; exact hcn p 1 z hz (by decide)
      have kb := Blk.new w #[.int .i64 2, .int .i64 i, .int .i64 j, .int .i64 c, .int .u64 v] 33
      have hf := hi.hfew
      have hp : p + 1 < nd.length + 1 := by have := (List.getElem?_eq_some_iff.1 hz).1; omega
      have few : nd.length + 1 ≤ 1048577 := by have := hi.few; omega
      have zs := hi.size z (List.mem_of_getElem? hz)
      obtain ⟨c0, c1, c2, cf⟩ := hk.four
      have lg := hk.blk.lt
      have ln := hnb.lt
      have ls := kb.lt
      have s0 := kb.cell 0
      have s1 := kb.cell 1
      have s2 := kb.cell 2
      have s3 := kb.cell 3
      have s4 := kb.cell 4
      have sf := kb.frozen
      have HX := Lib.hid (gx_make hi 2 i j c v z)
      have HI := Lib.hid (Rg.intro hi eN)
      unfold maxLen at n2
      obtain ⟨N, hN⟩ : ∃ N, nd.length + 1 = N := ⟨_, rfl⟩
      obtain ⟨P, hP⟩ : ∃ P, p + 1 = P := ⟨_, rfl⟩
      obtain ⟨n, hn2⟩ : ∃ n, G.hs.length = n := ⟨_, rfl⟩
      rw [hN] at c0 hp few n1
      rw [hP] at cy z0 z1 hp
      rw [hn2] at c1 jl hf hl
      have HN := Lib.hid (And.intro hN (And.intro hP hn2))
      have HK := Lib.hid (And.intro eN (And.intro ez (And.intro ep (And.intro hz (And.intro yv hw)))))
      have HV := Lib.hid (And.intro hx (And.intro hv (And.intro x0 (And.intro x1 ha))))
      clear hcx hcn kb hnb hk hi eN ez ep hz yv hw hb hn hy y0 y1 hN hP hn2 al hx hv x0 x1 ha
      go_enter Try.func30, Try.ntmps30
      go_wp2_with fail
      refine HW.out.mono ?_
      rintro e w1 ⟨rfl, rfl⟩
      go_wp2_with fail
      refine HH.out.mono ?_
      rintro e w1 ⟨rfl, rfl⟩
      generalize hW : w.alloc (stB 2 i j c v) = W at *
      clear hW
      go_wp2_with fail
      go_region
      clear z0 z1 c0 c1 c2 cf cy s0 s1 s2 s3 s4 sf hfz lg ln ls HW HH
      generalize (W.alloc (.cells #[.slice (some ⟨z.pb, 0, none⟩) z.ps.length z.ps.length, .slice (some ⟨z.sb, 0, none⟩) z.ss.length z.ss.length] 45)).drew = V at HX ⊢
      generalize W.heap.size = nbk at HX ⊢
      generalize w.heap.size = sbk at HX ⊢
      have hmz : z ∈ nd := List.mem_of_getElem? HK.out.2.2.2.1
      obtain ⟨c0, c1, c2, cf⟩ := HX.out.isg.four
      rw [HN.out.2.2] at c1
      have lg := HX.out.isg.blk.lt
      have ls := HX.out.st.lt
      have ln := HX.out.nb.lt
      have s1 := HX.out.st.cell 1
      have s2 := HX.out.st.cell 2
      have s3 := HX.out.st.cell 3
      have s4 := HX.out.st.cell 4
      obtain ⟨mm, hmm⟩ : ∃ mm, z.ps.length = mm := ⟨_, rfl⟩
      have m64 : mm ≤ 64 := by have := zs; omega
      have d0 : V.cell? ⟨nbk, 0, none⟩ = some (.slice (some ⟨z.pb, 0, none⟩) mm mm) := by rw [HX.out.nb.cell 0, ← hmm]; rfl
      clear c0 c2 zs
      by_cases hfi : 0 ≤ c ∧ c < mm
      · obtain ⟨F, rfl⟩ : ∃ F : Nat, c = F := ⟨c.toNat, by omega⟩
        have fl : F < mm := by omega
        obtain ⟨u, hu⟩ : ∃ u, z.ps[F]? = some u := ⟨_, List.getElem?_eq_getElem (by omega)⟩
        have pc : V.cell? ⟨z.pb, F, none⟩ = some (.int .i64 u) := by rw [(HX.out.isg.ptr z hmz).cell]; simp [ints, hu]
        have pf : ∀ k, V.frozen? ⟨z.pb, k, none⟩ = false := (HX.out.isg.ptr z hmz).frozen
        have lp := (HX.out.isg.ptr z hmz).lt
        obtain ⟨q2, off2, eq, lq, hcx, hfz⟩ := HX.out.isg.hrow.at_ (by have := HN.out.2.2; omega)
        cases eq
        have cx := hcx i x HV.out.1
        clear hcx
        have uin := HX.out.isg.pin z hmz u (List.mem_of_getElem? hu)
        have ec : G.change 2 i j F v = (0, G.hold i u) := by
          unfold Gr.change
          rw [if_neg (by decide), if_pos rfl, if_pos HK.out.2.2.2.2.2, if_pos HV.out.2.2.2.2, HK.out.2.2.2.2.1, HK.out.2.1, if_pos ⟨by omega, by simp only [hmm]; omega⟩, Int.toNat_natCast, List.getD_eq_getElem?_getD, hu]
          rfl
        have HE := Lib.hid (fun (w' : World) (f : Below V.heap.size V w') => (show ChR w g _ G 2 i j F v (.returned (.int .i64 0)) (w'.setCell ⟨q, off + i, none⟩ (.int .i64 u)) from by
          obtain ⟨h1, mv⟩ := (HX.out.isg.keep f).hold i u uin.1 uin.2
          unfold ChR
          rw [ec]
          exact ⟨rfl, _, ⟨_, _, hc, nd, by unfold Gr.hold; rw [Int.toNat_natCast]; exact h1, HK.out.1, rfl⟩, Mv.pre (below_trans HX.out.bel f) mv⟩))
        clear uin ec
        clear HX HI HN HK hu hmm hmz HV
        go_wp2_with fail
        go_region
        go_wp2
        go_ret
        exact HE.out _ (below_drew _)
      · have ec : G.change 2 i j c v = (5, G) := by
          unfold Gr.change
          rw [if_neg (by decide), if_pos rfl, if_pos HK.out.2.2.2.2.2, if_pos HV.out.2.2.2.2, HK.out.2.2.2.2.1, HK.out.2.1, if_neg (by simp only [hmm]; exact hfi)]
        have HE := Lib.hid (chR_err HI.out HX.out.bel ec)
        clear HX HI HN HK hmm hmz ec HV
        by_cases hz0 : c < 0
        · go_wp2
          go_ret
          exact HE.out
        · have hz1 : (mm : Int) ≤ c := by omega
          go_wp2
          go_ret
          exact HE.out
  · have HE := Lib.hid (chR_err (k := 2) (a := a) (b := b) (c := c) (v := v) (x := G.wrong b) r al (by simp [Gr.change, hw]))
    generalize G.wrong b = eb at HW HE hw
    clear r al HH
    go_enter Try.func30, Try.ntmps30
    go_wp2_with fail
    refine HW.out.mono ?_
    rintro e w1 ⟨rfl, rfl⟩
    go_wp2
    go_ret
    exact HE.out

set_option maxRecDepth 100000 in
set_option maxHeartbeats 8000000 in
theorem rgSet (w : World) (g : Nat) (S : Nat → Prop) (G : Gr) (a b c v : Int) (r : Rg w g S G) : Calls Try.prog 30 #[.pointer (some ⟨g, 0, none⟩), sgV 3 a b c v] w fun e w' => ChR w g S G 3 a b c v e w' := by
  have al : Below w.heap.size w (w.alloc (stB 3 a b c v)) := (Below.refl _ _).alloc (Nat.le_refl _) _
  have HW := Lib.hid (rgWrong_any _ g S G a (r.keep al))
  have HH := Lib.hid (rgHas_any _ g S G c (r.keep al))
  by_cases hw : G.wrong a = 0
  · rw [hw] at HW
    cases ha : G.has c
    · rw [ha] at HH
      have HE := Lib.hid (chR_err (k := 3) (a := a) (b := b) (c := c) (v := v) (x := 3) r al (by simp [Gr.change, hw, ha]))
      clear r hw ha al
      go_enter Try.func30, Try.ntmps30
      go_wp2_with fail
      refine HW.out.mono ?_
      rintro e w1 ⟨rfl, rfl⟩
      go_wp2_with fail
      refine HH.out.mono ?_
      rintro e w1 ⟨rfl, rfl⟩
      go_wp2
      go_ret
      exact HE.out
    · rw [ha] at HH
      obtain ⟨hb, hn⟩ := wrong_zero hw
      obtain ⟨i, x, rfl, hl, hx, hv, x0, x1⟩ := r.at_ ha
      obtain ⟨j, y, rfl, jl, hy, yv, y0, y1⟩ := r.at_ hb
      obtain ⟨vN, hA, hc, nd, hi, eN, rfl⟩ := r
      rw [yv] at hn
      obtain ⟨p, z, rfl, hz, ez, ep⟩ := node_at eN (x := y) (by omega) (by rw [eN, List.length_map] at y1; exact y1)
      have hk := hi.keep al
      obtain ⟨q, off, rfl, _, hcx, hfz⟩ := hk.hrow.at_ (by omega)
      obtain ⟨nb, nc, cur, rfl, hnb, n1, n2, hcn⟩ := hk.row
      have cy := hcx j _ hy
      have z0 : (w.alloc (stB 3 j b i v)).cell? ⟨nb, (p + 1) * 2, none⟩ = some (.slice (some ⟨z.pb, 0, none⟩) z.ps.length z.ps.length) := by rw [hnb.cell]; exact hcn p 0 z hz (by decide)
      have z1 : (w.alloc (stB 3 j b i v)).cell? ⟨nb, (p + 1) * 2 + 1, none⟩ = some (.slice (some ⟨z.sb, 0, none⟩) z.ss.length z.ss.length) := by rw [hnb.cell]; exact hcn p 1 z hz (by decide)
      have kb := Blk.new w #[.int .i64 3, .int .i64 j, .int .i64 b, .int .i64 i, .int .u64 v] 33
      have hf := hi.hfew
      have hp : p + 1 < nd.length + 1 := by have := (List.getElem?_eq_some_iff.1 hz).1; omega
      have few : nd.length + 1 ≤ 1048577 := by have := hi.few; omega
      have zs := hi.size z (List.mem_of_getElem? hz)
      obtain ⟨c0, c1, c2, cf⟩ := hk.four
      have lg := hk.blk.lt
      have ln := hnb.lt
      have ls := kb.lt
      have s0 := kb.cell 0
      have s1 := kb.cell 1
      have s2 := kb.cell 2
      have s3 := kb.cell 3
      have s4 := kb.cell 4
      have sf := kb.frozen
      have HX := Lib.hid (gx_make hi 3 j b i v z)
      have HI := Lib.hid (Rg.intro hi eN)
      unfold maxLen at n2
      obtain ⟨N, hN⟩ : ∃ N, nd.length + 1 = N := ⟨_, rfl⟩
      obtain ⟨P, hP⟩ : ∃ P, p + 1 = P := ⟨_, rfl⟩
      obtain ⟨n, hn2⟩ : ∃ n, G.hs.length = n := ⟨_, rfl⟩
      rw [hN] at c0 hp few n1
      rw [hP] at cy z0 z1 hp
      rw [hn2] at c1 jl hf hl
      have HN := Lib.hid (And.intro hN (And.intro hP hn2))
      have HK := Lib.hid (And.intro eN (And.intro ez (And.intro ep (And.intro hz (And.intro yv hw)))))
      have HV := Lib.hid (And.intro hx (And.intro hv (And.intro x0 (And.intro x1 ha))))
      clear hcx hcn kb hnb hk hi eN ez ep hz yv hw hb hn hy y0 y1 hN hP hn2 al hx hv x0 x1 ha
      go_enter Try.func30, Try.ntmps30
      go_wp2_with fail
      refine HW.out.mono ?_
      rintro e w1 ⟨rfl, rfl⟩
      go_wp2_with fail
      refine HH.out.mono ?_
      rintro e w1 ⟨rfl, rfl⟩
      generalize hW : w.alloc (stB 3 j b i v) = W at *
      clear hW
      go_wp2_with fail
      go_region
      clear z0 z1 c0 c1 c2 cf cy s0 s1 s2 s3 s4 sf hfz lg ln ls HW HH
      generalize (W.alloc (.cells #[.slice (some ⟨z.pb, 0, none⟩) z.ps.length z.ps.length, .slice (some ⟨z.sb, 0, none⟩) z.ss.length z.ss.length] 45)).drew = V at HX ⊢
      generalize W.heap.size = nbk at HX ⊢
      generalize w.heap.size = sbk at HX ⊢
      have hmz : z ∈ nd := List.mem_of_getElem? HK.out.2.2.2.1
      obtain ⟨c0, c1, c2, cf⟩ := HX.out.isg.four
      rw [HN.out.2.2] at c1
      have lg := HX.out.isg.blk.lt
      have ls := HX.out.st.lt
      have ln := HX.out.nb.lt
      have s1 := HX.out.st.cell 1
      have s2 := HX.out.st.cell 2
      have s3 := HX.out.st.cell 3
      have s4 := HX.out.st.cell 4
      obtain ⟨mm, hmm⟩ : ∃ mm, z.ps.length = mm := ⟨_, rfl⟩
      have m64 : mm ≤ 64 := by have := zs; omega
      have d0 : V.cell? ⟨nbk, 0, none⟩ = some (.slice (some ⟨z.pb, 0, none⟩) mm mm) := by rw [HX.out.nb.cell 0, ← hmm]; rfl
      clear c0 c2 zs
      by_cases hfi : 0 ≤ b ∧ b < mm
      · obtain ⟨F, rfl⟩ : ∃ F : Nat, b = F := ⟨b.toNat, by omega⟩
        have fl : F < mm := by omega
        obtain ⟨u, hu⟩ : ∃ u, z.ps[F]? = some u := ⟨_, List.getElem?_eq_getElem (by omega)⟩
        have pc : V.cell? ⟨z.pb, F, none⟩ = some (.int .i64 u) := by rw [(HX.out.isg.ptr z hmz).cell]; simp [ints, hu]
        have pf : ∀ k, V.frozen? ⟨z.pb, k, none⟩ = false := (HX.out.isg.ptr z hmz).frozen
        have lp := (HX.out.isg.ptr z hmz).lt
        obtain ⟨q2, off2, eq, lq, hcx, hfz⟩ := HX.out.isg.hrow.at_ (by have := HN.out.2.2; omega)
        cases eq
        have cx := hcx i x HV.out.1
        clear hcx
        have xin : 0 ≤ x ∧ x ≤ (nd.length : Int) := ⟨HV.out.2.2.1, by have := HV.out.2.2.2.1; rw [HK.out.1, List.length_map] at this; exact this⟩
        have ec : G.change 3 j F i v = (0, G.setNode ((p + 1 : Nat) : Int) (z.ps.set F x, z.ss)) := by
          unfold Gr.change
          rw [if_neg (by decide), if_neg (by decide), if_pos rfl, if_pos HK.out.2.2.2.2.2, if_pos HV.out.2.2.2.2, HK.out.2.2.2.2.1, HK.out.2.1, if_pos ⟨by omega, by simp only [hmm]; omega⟩, Int.toNat_natCast, HV.out.2.1]
        have HE := Lib.hid (fun (w' : World) (f : Below V.heap.size V w') => (show ChR w g _ G 3 j F i v (.returned (.int .i64 0)) (w'.setCell ⟨z.pb, F, none⟩ (.int .i64 x)) from by
          obtain ⟨h1, mv⟩ := (HX.out.isg.keep f).refer HK.out.2.2.2.1 F x xin.1 xin.2
          have hl2 : (nd.set p ⟨z.ps.set F x, z.ss, z.pb, z.sb⟩).length = nd.length := List.length_set
          unfold ChR
          rw [ec]
          exact ⟨rfl, _, ⟨_, _, hc, _, h1, by unfold Gr.setNode; rw [HK.out.2.2.1]; exact two_set HK.out.1 p ⟨z.ps.set F x, z.ss, z.pb, z.sb⟩, rfl⟩, Mv.pre (below_trans HX.out.bel f) mv⟩))
        clear xin ec
        clear HX HI HN HK hu hmm hmz HV
        go_wp2_with fail
        go_region
        go_wp2
        go_ret
        exact HE.out _ (below_drew _)
      · have ec : G.change 3 j b i v = (5, G) := by
          unfold Gr.change
          rw [if_neg (by decide), if_neg (by decide), if_pos rfl, if_pos HK.out.2.2.2.2.2, if_pos HV.out.2.2.2.2, HK.out.2.2.2.2.1, HK.out.2.1, if_neg (by simp only [hmm]; exact hfi)]
        have HE := Lib.hid (chR_err HI.out HX.out.bel ec)
        clear HX HI HN HK hmm hmz ec HV
        by_cases hz0 : b < 0
        · go_wp2
          go_ret
          exact HE.out
        · have hz1 : (mm : Int) ≤ b := by omega
          go_wp2
          go_ret
          exact HE.out
  · have HE := Lib.hid (chR_err (k := 3) (a := a) (b := b) (c := c) (v := v) (x := G.wrong a) r al (by simp [Gr.change, hw]))
    generalize G.wrong a = eb at HW HE hw
    clear r al HH
    go_enter Try.func30, Try.ntmps30
    go_wp2_with fail
    refine HW.out.mono ?_
    rintro e w1 ⟨rfl, rfl⟩
    go_wp2
    go_ret
    exact HE.out

set_option maxRecDepth 100000 in
set_option maxHeartbeats 8000000 in
theorem rgWrite (w : World) (g : Nat) (S : Nat → Prop) (G : Gr) (a b c v : Int) (r : Rg w g S G) : Calls Try.prog 30 #[.pointer (some ⟨g, 0, none⟩), sgV 5 a b c v] w fun e w' => ChR w g S G 5 a b c v e w' := by
  have al : Below w.heap.size w (w.alloc (stB 5 a b c v)) := (Below.refl _ _).alloc (Nat.le_refl _) _
  have HW := Lib.hid (rgWrong_any _ g S G a (r.keep al))
  by_cases hw : G.wrong a = 0
  · rw [hw] at HW
    obtain ⟨hb, hn⟩ := wrong_zero hw
    obtain ⟨j, y, rfl, jl, hy, yv, y0, y1⟩ := r.at_ hb
    obtain ⟨vN, hA, hc, nd, hi, eN, rfl⟩ := r
    rw [yv] at hn
    obtain ⟨p, z, rfl, hz, ez, ep⟩ := node_at eN (x := y) (by omega) (by rw [eN, List.length_map] at y1; exact y1)
    have hk := hi.keep al
    obtain ⟨q, off, rfl, _, hcx, hfz⟩ := hk.hrow.at_ (by omega)
    obtain ⟨nb, nc, cur, rfl, hnb, n1, n2, hcn⟩ := hk.row
    have cy := hcx j _ hy
    have z0 : (w.alloc (stB 5 j b c v)).cell? ⟨nb, (p + 1) * 2, none⟩ = some (.slice (some ⟨z.pb, 0, none⟩) z.ps.length z.ps.length) := by rw [hnb.cell]; exact hcn p 0 z hz (by decide)
    have z1 : (w.alloc (stB 5 j b c v)).cell? ⟨nb, (p + 1) * 2 + 1, none⟩ = some (.slice (some ⟨z.sb, 0, none⟩) z.ss.length z.ss.length) := by rw [hnb.cell]; exact hcn p 1 z hz (by decide)
    have kb := Blk.new w #[.int .i64 5, .int .i64 j, .int .i64 b, .int .i64 c, .int .u64 v] 33
    have hf := hi.hfew
    have hp : p + 1 < nd.length + 1 := by have := (List.getElem?_eq_some_iff.1 hz).1; omega
    have few : nd.length + 1 ≤ 1048577 := by have := hi.few; omega
    have zs := hi.size z (List.mem_of_getElem? hz)
    obtain ⟨c0, c1, c2, cf⟩ := hk.four
    have lg := hk.blk.lt
    have ln := hnb.lt
    have ls := kb.lt
    have s0 := kb.cell 0
    have s1 := kb.cell 1
    have s2 := kb.cell 2
    have s3 := kb.cell 3
    have s4 := kb.cell 4
    have sf := kb.frozen
    have HX := Lib.hid (gx_make hi 5 j b c v z)
    have HI := Lib.hid (Rg.intro hi eN)
    unfold maxLen at n2
    obtain ⟨N, hN⟩ : ∃ N, nd.length + 1 = N := ⟨_, rfl⟩
    obtain ⟨P, hP⟩ : ∃ P, p + 1 = P := ⟨_, rfl⟩
    obtain ⟨n, hn2⟩ : ∃ n, G.hs.length = n := ⟨_, rfl⟩
    rw [hN] at c0 hp few n1
    rw [hP] at cy z0 z1 hp
    rw [hn2] at c1 jl hf
    have HN := Lib.hid (And.intro hN (And.intro hP hn2))
    have HK := Lib.hid (And.intro eN (And.intro ez (And.intro ep (And.intro hz (And.intro yv hw)))))
    clear hcx hcn kb hnb hk hi eN ez ep hz yv hw hb hn hy y0 y1 hN hP hn2 al
    go_enter Try.func30, Try.ntmps30
    go_wp2_with fail
    refine HW.out.mono ?_
    rintro e w1 ⟨rfl, rfl⟩
    generalize hW : w.alloc (stB 5 j b c v) = W at *
    clear hW
    go_wp2_with fail
    go_region
    clear z0 z1 c0 c1 c2 cf cy s0 s1 s2 s3 s4 sf hfz lg ln ls HW
    generalize (W.alloc (.cells #[.slice (some ⟨z.pb, 0, none⟩) z.ps.length z.ps.length, .slice (some ⟨z.sb, 0, none⟩) z.ss.length z.ss.length] 45)).drew = V at HX ⊢
    generalize W.heap.size = nbk at HX ⊢
    generalize w.heap.size = sbk at HX ⊢
    have hmz : z ∈ nd := List.mem_of_getElem? HK.out.2.2.2.1
    obtain ⟨c0, c1, c2, cf⟩ := HX.out.isg.four
    rw [HN.out.2.2] at c1
    have lg := HX.out.isg.blk.lt
    have ls := HX.out.st.lt
    have ln := HX.out.nb.lt
    have s1 := HX.out.st.cell 1
    have s2 := HX.out.st.cell 2
    have s3 := HX.out.st.cell 3
    have s4 := HX.out.st.cell 4
    obtain ⟨mm, hmm⟩ : ∃ mm, z.ss.length = mm := ⟨_, rfl⟩
    have m64 : mm ≤ 64 := by have := zs; omega
    have d1 : V.cell? ⟨nbk, 1, none⟩ = some (.slice (some ⟨z.sb, 0, none⟩) mm mm) := by rw [HX.out.nb.cell 1, ← hmm]; rfl
    clear c0 c2 zs
    by_cases hfi : 0 ≤ b ∧ b < mm
    · obtain ⟨F, rfl⟩ : ∃ F : Nat, b = F := ⟨b.toNat, by omega⟩
      have fl : F < mm := by omega
      obtain ⟨u, hu⟩ : ∃ u, z.ss[F]? = some u := ⟨_, List.getElem?_eq_getElem (by omega)⟩
      have pc : V.cell? ⟨z.sb, F, none⟩ = some (.int .u64 u) := by rw [(HX.out.isg.sca z hmz).cell]; simp [wordsU, hu]
      have pf : ∀ k, V.frozen? ⟨z.sb, k, none⟩ = false := (HX.out.isg.sca z hmz).frozen
      have lp := (HX.out.isg.sca z hmz).lt
      have ec : G.change 5 j F c v = (0, G.setNode ((p + 1 : Nat) : Int) (z.ps, z.ss.set F v)) := by
        unfold Gr.change
        rw [if_neg (by decide), if_neg (by decide), if_neg (by decide), if_pos rfl, if_pos HK.out.2.2.2.2.2, HK.out.2.2.2.2.1, HK.out.2.1, if_pos ⟨by omega, by simp only [hmm]; omega⟩, Int.toNat_natCast]
      have HE := Lib.hid (fun (w' : World) (f : Below V.heap.size V w') => (show ChR w g _ G 5 j F c v (.returned (.int .i64 0)) (w'.setCell ⟨z.sb, F, none⟩ (.int .u64 v)) from by
        obtain ⟨h1, mv⟩ := (HX.out.isg.keep f).write HK.out.2.2.2.1 F v
        unfold ChR
        rw [ec]
        exact ⟨rfl, _, ⟨_, _, hc, _, h1, by unfold Gr.setNode; rw [HK.out.2.2.1]; exact two_set HK.out.1 p ⟨z.ps, z.ss.set F v, z.pb, z.sb⟩, rfl⟩, Mv.pre (below_trans HX.out.bel f) mv⟩))
      clear ec
      clear HX HI HN HK hu hmm hmz
      go_wp2
      go_ret
      exact HE.out _ (Below.refl _ _)
    · have ec : G.change 5 j b c v = (5, G) := by
        unfold Gr.change
        rw [if_neg (by decide), if_neg (by decide), if_neg (by decide), if_pos rfl, if_pos HK.out.2.2.2.2.2, HK.out.2.2.2.2.1, HK.out.2.1, if_neg (by simp only [hmm]; exact hfi)]
      have HE := Lib.hid (chR_err HI.out HX.out.bel ec)
      clear HX HI HN HK hmm hmz ec
      by_cases hz0 : b < 0
      · go_wp2
        go_ret
        exact HE.out
      · have hz1 : (mm : Int) ≤ b := by omega
        go_wp2
        go_ret
        exact HE.out
  · have HE := Lib.hid (chR_err (k := 5) (a := a) (b := b) (c := c) (v := v) (x := G.wrong a) r al (by simp [Gr.change, hw]))
    generalize G.wrong a = eb at HW HE hw
    clear r al
    go_enter Try.func30, Try.ntmps30
    go_wp2_with fail
    refine HW.out.mono ?_
    rintro e w1 ⟨rfl, rfl⟩
    go_wp2
    go_ret
    exact HE.out

end Go.Proofs.Ytjjjeeffllelaaa
