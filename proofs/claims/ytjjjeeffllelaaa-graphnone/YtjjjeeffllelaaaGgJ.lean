/- The program's graph: met, the nodes that handles come to and their numbers. -/
import Derived.Test.YtjjjeeffllelaaaGgI
namespace Go.Proofs.Ytjjjeeffllelaaa
open Go.RowKit Go.Maps

/-- How met ends: the row of what was met, and the map of its numbers. -/
def MetR (w : World) (nd : List Pd) (G : Gr) (e : Ending) (w' : World) : Prop :=
  ∃ v mb, e = .returned (.tuple #[v, .map (some mb)]) ∧ Below w.heap.size w w' ∧ w'.ownsRow w.heap.size 66 1 v G.live.length (ptVs (bls nd) G.live) ∧ PtM w' mb (bls nd) G.live ∧ w.heap.size ≤ mb

/-- A row of one-cell values that is held, where its cells lie. -/
theorem own_at {w : World} {B : Nat} {e : TypeId} {v : Value} {n : Nat} {xs : List Value} (h : w.ownsRow B e 1 v n xs) :
    (v = .slice none 0 0 ∧ n = 0) ∨ ∃ gq cap, v = .slice (some ⟨gq, 0, none⟩) n cap ∧ B ≤ gq ∧ gq < w.heap.size ∧ n ≤ cap ∧ cap ≤ maxLen ∧ ∀ i x, xs[i]? = some x → w.cell? ⟨gq, i, none⟩ = some x := by
  obtain ⟨hl, hv⟩ := h
  rcases hv with ⟨e1, e2⟩ | ⟨gq, cap, cur, e1, hB, hg, hnc, hm, hs, ht⟩
  · exact .inl ⟨e1, e2⟩
  · have hk : Blk w gq cur e := hg
    refine .inr ⟨gq, cap, e1, hB, hk.lt, hnc, hm, fun i x hx => ?_⟩
    have hi : i < n := by have := (List.getElem?_eq_some_iff.1 hx).1; omega
    rw [hk.cell]
    rw [← ht, List.getElem?_take_of_lt (by omega), Array.getElem?_toList] at hx
    exact hx

section
variable {w : World} {g hb : Nat} {nd : List Pd} {G : Gr}

theorem metsL_len (L xs : List Int) : L.length ≤ (metsL L xs).length := by
  induction xs generalizing L with
  | nil => exact Nat.le_refl _
  | cons x xs ih =>
    refine Nat.le_trans ?_ (ih (metL L x))
    unfold metL
    split <;> simp

theorem IsP.ok (h : IsP w g hb nd G.hs G.lg) (e : G.ns = nd.map Pd.two) : G.Ok := by
  have hl : G.ns.length = nd.length := by rw [e, List.length_map]
  refine ⟨fun x hx => by rw [hl]; exact h.hin x hx, fun n hn x hx => ?_⟩
  rw [e] at hn
  obtain ⟨y, hy, rfl⟩ := List.mem_map.1 hn
  rw [hl]
  exact h.pin y hy x hx

set_option maxHeartbeats 8000000 in
set_option maxRecDepth 100000 in
theorem met_any (i0 : IsP w g hb nd G.hs G.lg) (eN : G.ns = nd.map Pd.two) (few : nd.length ≤ 1048576) : Calls Try.prog 33 #[gP g] w (MetR w nd G) := by
  obtain ⟨c0, _⟩ := i0.two
  have hl : G.ns.length = nd.length := by rw [eN, List.length_map]
  have ok := i0.ok eN
  have hf := i0.hfew
  have hmf : ∀ (fn : Fn) (first cap : Array Value) (w : World), (Instr.makeFunc fn first cap).run Try.prog w = .ok (.func fn first cap) w := fun _ _ _ _ => rfl
  have hmm : ∀ W : World, (Instr.makeMap 63 none).run Try.prog W = .ok (.map (some W.heap.size)) (W.alloc (.map #[] 0)) := fun _ => rfl
  have HG := Lib.hid (And.intro i0 (And.intro eN (And.intro hl (And.intro ok few))))
  have e0 : (w.alloc (.cells #[.slice none 0 0] 49)).heap.size = w.heap.size + 1 := by simp
  have mz : ((w.alloc (.cells #[.slice none 0 0] 49)).alloc (.map #[] 0)).heap[w.heap.size + 1]? = some (.map #[] 0) := by
    have := (MapKept.heap_alloc (w.alloc (.cells #[.slice none 0 0] 49)) (.map #[] 0)).1
    rw [e0] at this
    exact this
  have FI := Lib.hid (run_first ((w.alloc (.cells #[.slice none 0 0] 49)).alloc (.map #[] 0)) (w.heap.size + 1) (bls nd) mz)
  have BA := Lib.hid (show Below w.heap.size w ((w.alloc (.cells #[.slice none 0 0] 49)).alloc (.map #[] 0)) ∧ Blk ((w.alloc (.cells #[.slice none 0 0] 49)).alloc (.map #[] 0)) w.heap.size #[.slice none 0 0] 49 from
    ⟨((Below.refl _ _).alloc (Nat.le_refl _) _).alloc (by omega) _, (Blk.new w _ _).alloc _⟩)
  clear i0 eN hl ok mz e0 few
  generalize hK : G.hs.length = K at *
  unfold gP
  go_enter Try.func33, Try.ntmps33
  go_wp2_with (first
      | (refine wpList_insert_pt _ rfl _ _ _ rfl (.map (some (w.heap.size + 1))) (.pointer none) (.int .i64 0) rfl rfl rfl FI.out ?_)
      | fail)
  intro w3 m3 f3
  generalize hW2 : (w.alloc (.cells #[.slice none 0 0] 49)).alloc (.map #[] 0) = W2 at *
  have b3 : Below w.heap.size w w3 := Below.frm BA.out.1 f3 BA.out.1.size fun k hk e => by omega
  have o3 := BA.out.2.frm f3 (show ¬ w.heap.size = w.heap.size + 1 by omega)
  have c3 := (b3.cell (p := ⟨g, 0, none⟩) HG.out.1.blk.lt).trans c0
  have a3 : Below w3.heap.size w3 (w3.alloc (.cells #[.map (some (w.heap.size + 1))] 63)) := (Below.refl _ _).alloc (Nat.le_refl _) _
  have b4 := below_trans b3 a3
  have J1 := Lib.hid (show MetI w (w3.alloc (.cells #[.map (some (w.heap.size + 1))] 63)) w.heap.size w3.heap.size (w.heap.size + 1) (.slice none 0 0) (bls nd) nd.length [] from
    { bel := b4
      obl := o3.keep a3
      nbl := Blk.new w3 #[.map (some (w.heap.size + 1))] 63
      map := m3.keep a3
      row := World.ownsRow_nil _ _ _ _
      olow := Nat.le_refl _
      nlow := b3.size
      mlow := by omega
      lv := .nil _
      few := HG.out.2.2.2.2 })
  have c4 := (b4.cell (p := ⟨g, 0, none⟩) HG.out.1.blk.lt).trans c0
  have gl : g < w3.heap.size := Nat.lt_of_lt_of_le HG.out.1.blk.lt b3.size
  clear m3 f3 FI BA hW2 o3 c0 a3 b4 b3
  go_wp2_with fail
  refine (met1 J1.out HG.out.1 hK hf (fun x hx => by have := HG.out.2.2.2.1.hs x hx; rw [HG.out.2.2.1] at this; exact this) HG.out.1.hrow).mono ?_
  rintro e w4 ⟨rfl, v4, h4⟩
  generalize w3.heap.size = nx at *
  generalize w.heap.size + 1 = mb at *
  have JS := Lib.hid (show MetI w w4 w.heap.size nx mb v4 (bls nd) nd.length (metsL [] G.hs) ∧ G.walkL (nd.length + 1 - 0) (metsL [] G.hs) 0 = G.live from ⟨h4, by
    unfold Gr.live
    rw [HG.out.2.2.1, Nat.sub_zero]⟩)
  clear J1 h4
  have nf := HG.out.2.2.2.2
  clear c4 gl
  go_wp2_with fail
  go_loopw [7] (fun s7 wr => ∃ (j : Nat) (L : List Int) (v : Value), j ≤ L.length ∧ s7 = .int .i64 j ∧ Hid (MetI w wr w.heap.size nx mb v (bls nd) nd.length L ∧ G.walkL (nd.length + 1 - j) L j = G.live)) (fun s7 _ => nd.length + 1 - (intOf s7).toNat)
  case atStart => exact ⟨0, _, v4, Nat.zero_le _, rfl, JS⟩
  case round =>
    clear JS
    obtain ⟨j, L, v, hj, rfl, HJ⟩ := hrel
    have co := HJ.out.1.obl.cell 0
    have lf := HJ.out.1.lv.few
    have cn := HJ.out.1.nbl.cell 0
    by_cases hlt : j < L.length
    · obtain ⟨x, hx⟩ : ∃ x, L[j]? = some x := ⟨_, List.getElem?_eq_getElem hlt⟩
      obtain ⟨x1, x2⟩ := HJ.out.1.lv.in_ x (List.mem_of_getElem? hx)
      obtain ⟨k, y, rfl, hy, ey, ek⟩ := nodeP_at HG.out.2.1 (x := x) (by omega) x2
      have mem := List.mem_of_getElem? hy
      rcases own_at HJ.out.1.row with ⟨_, e⟩ | ⟨gq, cap, rfl, glow, gl, n1, n2, hat⟩
      · omega
      · have d1 : wr.cell? ⟨gq, j, none⟩ = some (.pointer (some ⟨y.nb, 0, none⟩)) := by
          rw [hat j (ptV (bls nd) ((k + 1 : Nat) : Int)) (by simp [ptVs, hx]), ptV_at hy]
        have kb := (HG.out.1.box y mem).keep HJ.out.1.bel
        have d2 := kb.cell 0
        have lb := kb.lt
        have hz := (HG.out.1.size y mem).1
        have M1 := Lib.hid (met1 HJ.out.1 HG.out.1 (xs := y.ps) (lb := y.pb) rfl hz (HG.out.1.pin y mem) (HG.out.1.ptr y mem))
        have WK := Lib.hid (show G.walkL (nd.length + 1 - (j + 1)) (metsL L y.ps) (j + 1) = G.live from by
          rw [← HJ.out.2, show nd.length + 1 - j = (nd.length + 1 - (j + 1)) + 1 by omega, Gr.walkL_at hx, ey])
        have PR := Lib.hid (metsL_len L y.ps)
        clear hx hat kb mem hy ey ek x1 x2 HJ cn
        unfold pdB at *
        generalize y.ps.length = P at *
        go_wp2_with fail
        refine M1.out.mono ?_
        rintro e w5 ⟨rfl, v5, h5⟩
        have H5 := Lib.hid (And.intro h5 WK.out)
        clear h5 WK M1 d1 d2 co
        go_wp2
        go_roundw
        case rel => exact ⟨j + 1, _, v5, by have := PR.out; omega, by go_num, H5⟩
        case measure => simp [intOf]; omega
    · obtain rfl : j = L.length := by omega
      have eL : G.live = L := by rw [← HJ.out.2]; exact Gr.walkL_end (Nat.le_refl _)
      have RE := Lib.hid (fun (w' : World) (f : Below wr.heap.size wr w') => (show MetR w nd G (.returned (.tuple #[v, .map (some mb)])) w' from by
        have h := HJ.out.1.keep f
        refine ⟨v, mb, rfl, h.bel, ?_, ?_, h.mlow⟩
        · rw [eL]; exact h.row
        · rw [eL]; exact h.map))
      have hv : ∃ A cap, v = .slice A L.length cap := by
        rcases own_at HJ.out.1.row with ⟨e1, e2⟩ | ⟨gq, cap, rfl, _⟩
        · exact ⟨none, 0, by rw [e1, e2]⟩
        · exact ⟨_, cap, rfl⟩
      obtain ⟨A, cap, rfl⟩ := hv
      clear HJ eL
      go_wp2_with fail
      go_region
      go_wp2
      go_ret2
      exact RE.out _ (below_drew _)
end
end Go.Proofs.Ytjjjeeffllelaaa
