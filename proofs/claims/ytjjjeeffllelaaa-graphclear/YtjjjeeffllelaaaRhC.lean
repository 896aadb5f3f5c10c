
/- Live of the document's graph. -/
import Derived.Test.YtjjjeeffllelaaaRhB
namespace Go.Proofs.Ytjjjeeffllelaaa
open Go.RowKit

/-- How Live ends. -/
def LiveR (w : World) (G : Gr) (e : Ending) (w' : World) : Prop :=
  ∃ A c, e = .returned (.slice A G.live.length c) ∧ Qu w' A G.live.length c G.live ∧ (∀ k, blkOf A = some k → w.heap.size ≤ k) ∧ Below w.heap.size w w'

/-- Where a loop of Live stands: L was met, of n places. -/
def LvS (w0 w : World) (g : Nat) (S : Nat → Prop) (G : Gr) (mb : Nat) (A : Option Addr) (n c : Nat) (L : List Int) : Prop := n = L.length ∧ LvI w0 w g S G A c mb L

section
variable {w wr : World} {g mb n c : Nat} {S : Nat → Prop} {G : Gr} {A : Option Addr} {L : List Int}

theorem LvS.size (h : LvS w wr g S G mb A n c L) : n ≤ G.ns.length := by rw [h.1]; exact h.2.lv.few

/-- What is met already. -/
theorem LvS.old (h : LvS w wr g S G mb A n c L) {x : Int} (hx : x = 0 ∨ x ∈ L) : LvS w wr g S G mb A n c (metL L x) := by
  unfold metL
  rw [if_pos hx]
  exact h
/-- What is new. -/
theorem LvS.new (h : LvS w wr g S G mb A n c L) {x : Nat} (x2 : x ≤ G.ns.length) (hx : ¬ ((x : Int) = 0 ∨ (x : Int) ∈ L)) {V : World} (eV : wr.setCell ⟨mb, x, none⟩ (.bool true) = V) :
    Rg V g S G ∧ Qu (V.alloc (.cells #[.int .i64 x] 3)) A n c L ∧ (V.alloc (.cells #[.int .i64 x] 3)).cell? ⟨wr.heap.size, 0, none⟩ = some (.int .i64 x) ∧
      ∀ A' c' w2, Qu w2 A' (n + 1) c' (L ++ [(x : Int)]) → Grw A A' (V.alloc (.cells #[.int .i64 x] 3)) w2 → LvS w w2 g S G mb A' (n + 1) c' (metL L x) := by
  obtain ⟨rfl, k⟩ := h
  obtain ⟨h1, h2, h3, h4, h5⟩ := k.add (by omega) x2 (fun e => hx (.inr e)) eV
  refine ⟨h1, h3, by rw [← h2]; exact h4, fun A' c' w2 q gr => ?_⟩
  unfold metL
  rw [if_neg hx]
  exact ⟨by simp, h5 A' c' w2 q gr⟩

set_option maxHeartbeats 8000000 in
set_option maxRecDepth 100000 in
theorem rgLive (r : Rg w g S G) : Calls Try.prog 34 #[.pointer (some ⟨g, 0, none⟩)] w (LiveR w G) := by
  obtain ⟨nb, nc, hA, hc, c0, c1, n1, n2, -, hnd, Sg, Snb, hf, nf⟩ := r.cells
  obtain ⟨N, hN⟩ : ∃ N, G.ns.length = N := ⟨_, rfl⟩
  obtain ⟨K, hK⟩ : ∃ K, G.hs.length = K := ⟨_, rfl⟩
  have hmk := run_make_bool ((N : Int) + 1) (by omega) (by omega)
  have I0 := Lib.hid (LvI.first r hN)
  have OK := Lib.hid r.ok
  have HN := Lib.hid hN
  have HK := Lib.hid hK
  have gl := r.lt Sg
  rw [hN] at c0 n1 nf
  rw [hK] at c1 hf
  have ND := Lib.hid (fun (i : Nat) (hi : i < G.ns.length) => (show ∃ pb, w.cell? ⟨nb, (i + 1) * 2, none⟩ = some (.slice (some ⟨pb, 0, none⟩) (G.node ((i + 1 : Nat) : Int)).1.length (G.node ((i + 1 : Nat) : Int)).1.length) ∧
      Blk w pb (ints (G.node ((i + 1 : Nat) : Int)).1).toArray 3 ∧ (G.node ((i + 1 : Nat) : Int)).1.length ≤ 64 ∧ pb < w.heap.size from by
    obtain ⟨pb, sb, h1, _, h2, _, h3, _, h4, _⟩ := hnd i hi
    exact ⟨pb, h1, h2, h4, r.lt h3⟩))
  have C0 := Lib.hid c0
  have nl := r.lt Snb
  clear hN hK r Sg hnd Snb
  go_enter Try.func34, Try.ntmps34
  go_wp2_with fail
  clear hmk c0 c1
  generalize World.alloc _ _ = w1 at *
  generalize hmb : w.heap.size + 1 = mb at *
  go_loopw [3, 5] (fun s3 s5 wr => ∃ (i n c : Nat) (A : Option Addr) (L : List Int), i ≤ K ∧ s5 = .int .i64 i ∧ s3 = .slice A n c ∧ n ≤ N ∧ Hid (LvS w wr g S G mb A n c L ∧ L = metsL [] (G.hs.take i))) (fun _ s5 _ => K - (intOf s5).toNat)
  case atStart => exact ⟨0, 0, 0, some ⟨w.heap.size, 0, none⟩, [], Nat.zero_le _, rfl, rfl, Nat.zero_le _, Lib.hid ⟨⟨rfl, I0.out⟩, rfl⟩⟩
  case round =>
    clear I0
    obtain ⟨i, n, c, A, L, hi, rfl, rfl, hn, HI⟩ := hrel
    obtain ⟨_, _, hA, hc, -, c1, -, -, hat, -, -, -, -, -⟩ := HI.out.1.2.r.cells
    rw [HK.out] at c1
    by_cases hlt : i < K
    · obtain ⟨x, hx⟩ : ∃ x, G.hs[i]? = some x := ⟨_, List.getElem?_eq_getElem (by rw [HK.out]; exact hlt)⟩
      obtain ⟨x0, x2⟩ := OK.out.hs x (List.mem_of_getElem? hx)
      rw [HN.out] at x2
      obtain ⟨x, rfl⟩ : ∃ y : Nat, x = (y : Int) := ⟨x.toNat, by omega⟩
      obtain ⟨q, off, rfl, Sq, cx⟩ := hat i x hx
      have fl := HI.out.1.2.flag (x := x) (by rw [HN.out]; omega)
      have TK := Lib.hid (metsL_take (L := []) hx)
      clear hat hx
      by_cases hm : (x : Int) = 0 ∨ (x : Int) ∈ L
      · rw [decide_eq_true hm] at fl
        have HN2 := Lib.hid (show LvS w wr g S G mb A n c (metL L x) ∧ metL L x = metsL [] (G.hs.take (i + 1)) from ⟨HI.out.1.old hm, by rw [TK.out, ← HI.out.2]⟩)
        clear hm HI TK
        go_wp2_with fail
        go_roundw
        case rel => exact ⟨i + 1, n, c, A, _, by omega, by go_num, rfl, hn, HN2⟩
        case measure => simp [intOf]; omega
      · rw [decide_eq_false hm] at fl
        have NW := Lib.hid (HI.out.1.new (x := x) (by rw [HN.out]; omega) hm rfl)
        have gm : g ≠ mb := fun e => by have := HI.out.1.2.mlow; omega
        have qm : q ≠ mb := fun e => by have := HI.out.1.2.mlow; have := HI.out.1.2.own q Sq; omega
        have fm := HI.out.1.2.m.frozen x
        have TK2 := Lib.hid (show metL L x = metsL [] (G.hs.take (i + 1)) from by rw [TK.out, ← HI.out.2])
        clear hm HI TK Sq
        go_wp2_with (first
          | (at_builtin; (refine wpList_append_qu _ rfl _ _ rfl NW.out.2.1 (by omega) x ⟨wr.heap.size, 0, none⟩ 1 rfl rfl NW.out.2.2.1 ?_))
          | fail)
        intro A' c' w2 qu gr
        have HN2 := Lib.hid (show LvS w w2 g S G mb A' (n + 1) c' (metL L x) ∧ metL L x = metsL [] (G.hs.take (i + 1)) from ⟨NW.out.2.2.2 A' c' w2 qu gr, TK2.out⟩)
        have sz := HN2.out.1.size
        rw [HN.out] at sz
        clear NW TK2 qu gr c1 cx fl fm
        go_wp2
        go_roundw
        case rel => exact ⟨i + 1, n + 1, c', A', _, by omega, by go_num, rfl, sz, HN2⟩
        case measure => simp [intOf]; omega
    · obtain rfl : i = K := by omega
      have J0 := Lib.hid (show LvS w wr g S G mb A n c L ∧ G.walkL (N + 1 - 0) L 0 = G.live from ⟨HI.out.1, by
        unfold Gr.live
        rw [HN.out, HI.out.2, List.take_of_length_le (by rw [HK.out]; omega), Nat.sub_zero]⟩)
      clear HI hat
      go_wp2_with fail
      clear c1
      go_loopw [3, 6, 7, 8] (fun s3 s6 _ _ wr => ∃ (j n c : Nat) (A : Option Addr) (L : List Int), j ≤ n ∧ s6 = .int .i64 j ∧ s3 = .slice A n c ∧ n ≤ N ∧ Hid (LvS w wr g S G mb A n c L ∧ G.walkL (N + 1 - j) L j = G.live)) (fun _ s6 _ _ _ => N + 1 - (intOf s6).toNat)
      case atStart => exact ⟨0, n, c, A, L, Nat.zero_le _, rfl, rfl, hn, J0⟩
      case round =>
        clear J0
        obtain ⟨j, n, c, A, L, hj, rfl, rfl, hn, HJ⟩ := hrel
        by_cases hlt : j < n
        · obtain ⟨x, hx⟩ : ∃ x, L[j]? = some x := ⟨_, List.getElem?_eq_getElem (by rw [← HJ.out.1.1]; exact hlt)⟩
          obtain ⟨x1, x2⟩ := HJ.out.1.2.lv.in_ x (List.mem_of_getElem? hx)
          obtain ⟨i, rfl⟩ : ∃ i : Nat, x = ((i + 1 : Nat) : Int) := ⟨x.toNat - 1, by omega⟩
          rw [HN.out] at x2
          obtain ⟨pb, p1, p2, p3, p4⟩ := ND.out i (by rw [HN.out]; omega)
          obtain ⟨ps, hps⟩ : ∃ ps, (G.node ((i + 1 : Nat) : Int)).1 = ps := ⟨_, rfl⟩
          have psin := OK.out.node ((i + 1 : Nat) : Int)
          rw [hps] at psin p1 p2 p3
          obtain ⟨P, hP⟩ : ∃ P, ps.length = P := ⟨_, rfl⟩
          rw [hP] at p1 p3
          have WK := Lib.hid (show G.walkL (N + 1 - (j + 1)) (metsL L ps) (j + 1) = G.live from by
            rw [← HJ.out.2, ← hps, show N + 1 - j = (N + 1 - (j + 1)) + 1 by omega, Gr.walkL_at hx])
          have bel := HJ.out.1.2.bel
          have d0 : wr.cell? ⟨g, 0, none⟩ = some (.slice (some ⟨nb, 0, none⟩) (N + 1) nc) := (bel.cell (p := ⟨g, 0, none⟩) gl).trans C0.out
          have d1 : wr.cell? ⟨nb, (i + 1) * 2, none⟩ = some (.slice (some ⟨pb, 0, none⟩) P P) := (bel.cell (p := ⟨nb, (i + 1) * 2, none⟩) nl).trans p1
          obtain ⟨qb, off, rfl, _, qat, _⟩ := HJ.out.1.2.q.at_ (by rw [← HJ.out.1.1]; omega)
          have d2 := qat j _ hx
          have PB := Lib.hid p2
          have PS := Lib.hid psin
          have HP := Lib.hid hP
          have L0 := Lib.hid (show LvS w wr g S G mb (some ⟨qb, off, none⟩) n c L ∧ L = metsL L (ps.take 0) from ⟨HJ.out.1, rfl⟩)
          clear HJ p1 p2 psin hps hP bel qat hx
          go_wp2_with fail
          go_region
          clear d0 d1 d2
          have L1 := Lib.hid (show LvS w wr.drew g S G mb (some ⟨qb, off, none⟩) n c L ∧ L = metsL L (ps.take 0) from ⟨⟨L0.out.1.1, L0.out.1.2.keep (below_drew _)⟩, L0.out.2⟩)
          clear L0
          generalize wr.drew = wd at *
          go_wp2_with fail
          go_loopw [3, 8] (fun s3 s8 wr => ∃ (k n' c' : Nat) (A : Option Addr) (M : List Int), k ≤ P ∧ s8 = .int .i64 k ∧ s3 = .slice A n' c' ∧ n ≤ n' ∧ n' ≤ N ∧ Hid (LvS w wr g S G mb A n' c' M ∧ M = metsL L (ps.take k))) (fun _ s8 _ => P - (intOf s8).toNat)
          case atStart => exact ⟨0, n, c, _, L, Nat.zero_le _, rfl, rfl, Nat.le_refl _, hn, L1⟩
          case round =>
            clear L1
            obtain ⟨k, n', c', A, M, hk, rfl, rfl, hnn, hn', HM⟩ := hrel
            by_cases hlt : k < P
            · obtain ⟨y, hy⟩ : ∃ y, ps[k]? = some y := ⟨_, List.getElem?_eq_getElem (by rw [HP.out]; exact hlt)⟩
              obtain ⟨y0, y2⟩ := PS.out y (List.mem_of_getElem? hy)
              rw [HN.out] at y2
              obtain ⟨y, rfl⟩ : ∃ z : Nat, y = (z : Int) := ⟨y.toNat, by omega⟩
              have cy : wr.cell? ⟨pb, k, none⟩ = some (.int .i64 y) := (HM.out.1.2.bel.cell (p := ⟨pb, k, none⟩) p4).trans (by rw [PB.out.cell]; simp [ints, hy])
              have fl := HM.out.1.2.flag (x := y) (by rw [HN.out]; omega)
              have TK := Lib.hid (metsL_take (L := L) hy)
              clear hy
              by_cases hm : (y : Int) = 0 ∨ (y : Int) ∈ M
              · rw [decide_eq_true hm] at fl
                have HN2 := Lib.hid (show LvS w wr g S G mb A n' c' (metL M y) ∧ metL M y = metsL L (ps.take (k + 1)) from ⟨HM.out.1.old hm, by rw [TK.out, ← HM.out.2]⟩)
                clear hm HM TK
                go_wp2_with fail
                go_roundw
                case rel => exact ⟨k + 1, n', c', A, _, by omega, by go_num, rfl, hnn, hn', HN2⟩
                case measure => simp [intOf]; omega
              · rw [decide_eq_false hm] at fl
                have NW := Lib.hid (HM.out.1.new (x := y) (by rw [HN.out]; omega) hm rfl)
                have pm : pb ≠ mb := fun e => by have := HM.out.1.2.mlow; omega
                have fm := HM.out.1.2.m.frozen y
                have TK2 := Lib.hid (show metL M y = metsL L (ps.take (k + 1)) from by rw [TK.out, ← HM.out.2])
                clear hm HM TK
                go_wp2_with (first
                  | (at_builtin; (refine wpList_append_qu _ rfl _ _ rfl NW.out.2.1 (by omega) y ⟨wr.heap.size, 0, none⟩ 1 rfl rfl NW.out.2.2.1 ?_))
                  | fail)
                intro A' c2 w2 qu gr
                have HN2 := Lib.hid (show LvS w w2 g S G mb A' (n' + 1) c2 (metL M y) ∧ metL M y = metsL L (ps.take (k + 1)) from ⟨NW.out.2.2.2 A' c2 w2 qu gr, TK2.out⟩)
                have sz := HN2.out.1.size
                rw [HN.out] at sz
                clear NW TK2 qu gr cy fl fm
                go_wp2
                go_roundw
                case rel => exact ⟨k + 1, n' + 1, c2, A', _, by omega, by go_num, rfl, by omega, sz, HN2⟩
                case measure => simp [intOf]; omega
            · obtain rfl : k = P := by omega
              have J1 := Lib.hid (show LvS w wr g S G mb A n' c' M ∧ G.walkL (N + 1 - (j + 1)) M (j + 1) = G.live from ⟨HM.out.1, by
                rw [HM.out.2, List.take_of_length_le (by rw [HP.out]; omega)]; exact WK.out⟩)
              clear HM WK PB PS HP
              go_wp2_with fail
              go_roundw
              case rel => exact ⟨j + 1, n', c', A, M, by omega, by go_num, rfl, hn', J1⟩
              case measure => simp [intOf]; omega
        · obtain rfl : j = n := by omega
          have RE : Hid (LiveR w G (.returned (.slice A j c)) wr) := Lib.hid (by
            have h := HJ.out.1
            have e : G.live = L := by
              rw [← HJ.out.2]
              exact Gr.walkL_end (by rw [← h.1]; exact Nat.le_refl _)
            refine ⟨A, c, ?_, ?_, h.2.qlow, h.2.bel⟩
            · rw [e, ← h.1]
            · rw [e]; exact h.2.q)
          clear HJ
          go_wp2
          go_ret
          exact RE.out
end
end Go.Proofs.Ytjjjeeffllelaaa
