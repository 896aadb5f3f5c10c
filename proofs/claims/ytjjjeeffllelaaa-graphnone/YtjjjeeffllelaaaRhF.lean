/- Shown of the document's graph. -/
import Derived.Test.YtjjjeeffllelaaaRhE
import Derived.Test.YtjjjeeffllelaaaMdR
namespace Go.Proofs.Ytjjjeeffllelaaa
open Go.RowKit

/-- How Shown ends: nodes and numbers, in memory of their own but for the scalars. -/
def ShownR (w : World) (G : Gr) (e : Ending) (w' : World) : Prop :=
  ∃ w0 v ts A c, e = .returned (.tuple #[v, .slice A G.hs.length c]) ∧ Below w.heap.size w w0 ∧ ShI w0 w' v ts ∧ ts.map Tn.two = G.shown ∧ Qu w' A G.hs.length c G.heldAt ∧ ∀ k, blkOf A = some k → w.heap.size ≤ k

/-- Where the region stands that appends what at answers: its box is made, or not yet. -/
def AtG (i : Nat) (w0 : World) (z : Int) (mm : Made) (W : World) : Prop := match mm i with
  | none => W = w0
  | some v => v = .slice (some ⟨w0.heap.size, 0, none⟩) 1 1 ∧ W = w0.alloc (.cells #[.int .i64 z] 3)

def AtV (p0 p1 p2 p3 p4 p5 p6 p7 p8 p9 : Value) : Nat → Value → Prop
  | 0, v => v = p0
  | 1, v => v = p1
  | 2, v => v = p2
  | 3, v => v = p3
  | 4, v => v = p4
  | 5, v => v = p5
  | 6, v => v = p6
  | 7, v => v = p7
  | 8, v => v = p8
  | _, v => v = p9
theorem atV_some (p0 p1 p2 p3 p4 p5 p6 p7 p8 p9 : Value) (k : Nat) : ∃ v, AtV p0 p1 p2 p3 p4 p5 p6 p7 p8 p9 k v := by
  rcases k with _ | _ | _ | _ | _ | _ | _ | _ | _ | k
  all_goals exact ⟨_, rfl⟩

section
variable {w0 W : World} {z : Int} {mm : Made} {b : Nat}
theorem AtG.bel (h : AtG b w0 z mm W) : Below w0.heap.size w0 W := by
  unfold AtG at h
  split at h
  · rw [h]; exact Below.refl _ _
  · rw [h.2]; exact (Below.refl _ _).alloc (Nat.le_refl _) _
theorem AtG.cell (h : AtG b w0 z mm W) {a : Addr} {v : Value} (e : w0.cell? a = some v) : W.cell? a = some v := by
  have lt : a.block < w0.heap.size := by
    by_cases hb : a.block < w0.heap.size
    · exact hb
    · exfalso
      unfold World.cell? at e
      rw [Array.getElem?_eq_none (by omega)] at e
      simp at e
  exact (h.bel.cell lt).trans e
theorem AtG.pure (h : AtG b w0 z mm W) (i : Nat) (v : Value) (hi : i ≠ b) : AtG b w0 z (mm.upd i v) W := by
  unfold AtG at h ⊢
  rw [Made.upd_ne v (Ne.symm hi)]
  exact h
theorem AtG.make (h : AtG b w0 z mm W) (h0 : mm b = none) : AtG b w0 z (mm.upd b (.slice (some ⟨W.heap.size, 0, none⟩) 1 1)) (W.alloc (.cells #[.int .i64 z] 3)) := by
  unfold AtG at h ⊢
  rw [h0] at h
  subst h
  have e : (mm.upd b (.slice (some ⟨W.heap.size, 0, none⟩) 1 1)) b = some (.slice (some ⟨W.heap.size, 0, none⟩) 1 1) := if_pos rfl
  rw [e]
  exact ⟨rfl, rfl⟩
theorem AtG.end_ {v : Value} (h : AtG b w0 z mm W) (e : mm b = some v) : v = .slice (some ⟨w0.heap.size, 0, none⟩) 1 1 ∧ W = w0.alloc (.cells #[.int .i64 z] 3) := by
  unfold AtG at h
  rw [e] at h
  exact h
end

attribute [local go_sem] madeUpon

section
variable {w : World} {g : Nat} {S : Nat → Prop} {G : Gr}

set_option maxHeartbeats 8000000 in
set_option maxRecDepth 100000 in
theorem rgShown (r : Rg w g S G) : Calls Try.prog 16 #[.pointer (some ⟨g, 0, none⟩)] w (ShownR w G) := by
  obtain ⟨nb, nc, hA, hc, c0, c1, n1, n2, hat, hnd, Sg, Snb, hf, nf⟩ := r.cells
  obtain ⟨N, hN⟩ : ∃ N, G.ns.length = N := ⟨_, rfl⟩
  obtain ⟨K, hK⟩ : ∃ K, G.hs.length = K := ⟨_, rfl⟩
  obtain ⟨M, hM⟩ : ∃ M, G.live.length = M := ⟨_, rfl⟩
  have HL := Lib.hid (rgLive r)
  have LV := Lib.hid r.ok.live
  have mf := r.ok.live.few
  have ND := Lib.hid (fun (i : Nat) (hi : i < G.ns.length) => (show ∃ pb sb, w.cell? ⟨nb, (i + 1) * 2, none⟩ = some (.slice (some ⟨pb, 0, none⟩) (G.node ((i + 1 : Nat) : Int)).1.length (G.node ((i + 1 : Nat) : Int)).1.length) ∧
      w.cell? ⟨nb, (i + 1) * 2 + 1, none⟩ = some (.slice (some ⟨sb, 0, none⟩) (G.node ((i + 1 : Nat) : Int)).2.length (G.node ((i + 1 : Nat) : Int)).2.length) ∧
      Blk w pb (ints (G.node ((i + 1 : Nat) : Int)).1).toArray 3 ∧ Blk w sb (wordsU (G.node ((i + 1 : Nat) : Int)).2).toArray 28 ∧ (G.node ((i + 1 : Nat) : Int)).1.length ≤ 64 ∧ (G.node ((i + 1 : Nat) : Int)).2.length ≤ 64 from by
    obtain ⟨pb, sb, h1, h2, h3, h4, _, _, h5, h6⟩ := hnd i hi
    exact ⟨pb, sb, h1, h2, h3, h4, h5, h6⟩))
  have HT := Lib.hid (fun (i : Nat) (x : Int) (hx : G.hs[i]? = some x) => (show ∃ q off, hA = some ⟨q, off, none⟩ ∧ q < w.heap.size ∧ w.cell? ⟨q, off + i, none⟩ = some (.int .i64 x) from by
    obtain ⟨q, off, h1, h2, h3⟩ := hat i x hx
    exact ⟨q, off, h1, r.lt h2, h3⟩))
  have gl := r.lt Sg
  have nl := r.lt Snb
  rw [hN] at c0 n1 nf mf
  rw [hK] at c1 hf
  rw [hM] at mf
  have HN := Lib.hid hN
  have HK := Lib.hid hK
  have HM := Lib.hid hM
  have C0 := Lib.hid c0
  have C1 := Lib.hid c1
  clear c0 c1 r hnd hat Sg Snb hN hK hM
  obtain ⟨i0, hi0, hz0, hs0, hb0⟩ := info_parts info_node
  have HI0 := Lib.hid (And.intro hi0 (And.intro hz0 (And.intro hs0 hb0)))
  clear hi0 hz0 hs0 hb0
  go_enter Try.func16, Try.ntmps16
  go_wp2_with fail
  refine HL.out.mono ?_
  rintro e w1 ⟨A, c, rfl, q, _, bel⟩
  rw [HM.out] at q ⊢
  have HQ := Lib.hid q
  have BL := Lib.hid bel
  clear q bel HL
  go_wp2_with fail
  have I0 := Lib.hid (ShI.first w1)
  go_loopw [5, 6, 7, 8, 9] (fun s5 s6 _ _ _ wr => ∃ (i : Nat) (ts : List Tn), i ≤ M ∧ s6 = .int .i64 i ∧ ts.length = i ∧ Hid (ShI w1 wr s5 ts ∧ ts.map Tn.two = (G.live.take i).map fun x => ((G.node x).1.map (atL G.live), (G.node x).2))) (fun _ s6 _ _ _ _ => M - (intOf s6).toNat)
  case atStart => exact ⟨0, [], Nat.zero_le _, rfl, rfl, Lib.hid ⟨I0.out, rfl⟩⟩
  case round =>
    clear I0
    obtain ⟨i, ts, hi, rfl, ht, HS⟩ := hrel
    by_cases hlt : i < M
    · obtain ⟨x, hx⟩ : ∃ x, G.live[i]? = some x := ⟨_, List.getElem?_eq_getElem (by rw [HM.out]; exact hlt)⟩
      obtain ⟨x1, x2⟩ := LV.out.in_ x (List.mem_of_getElem? hx)
      obtain ⟨n, rfl⟩ : ∃ n : Nat, x = ((n + 1 : Nat) : Int) := ⟨x.toNat - 1, by omega⟩
      rw [HN.out] at x2
      obtain ⟨pb, sb, p1, p2, p3, p4, p5, p6⟩ := ND.out n (by rw [HN.out]; omega)
      have TK := Lib.hid (show (G.live.take (i + 1)).map (fun x => ((G.node x).1.map (atL G.live), (G.node x).2)) = (G.live.take i).map (fun x => ((G.node x).1.map (atL G.live), (G.node x).2)) ++ [((G.node ((n + 1 : Nat) : Int)).1.map (atL G.live), (G.node ((n + 1 : Nat) : Int)).2)] from by
        rw [List.take_add_one, hx, Option.toList_some, List.map_append]; rfl)
      generalize (G.node ((n + 1 : Nat) : Int)).1 = ps at *
      generalize (G.node ((n + 1 : Nat) : Int)).2 = ss at *
      have bel := below_trans BL.out HS.out.1.bel
      obtain ⟨qb, off, rfl, lqb, qat, _⟩ := (HQ.out.keep HS.out.1.bel).at_ (by omega)
      have d0 : wr.cell? ⟨g, 0, none⟩ = some (.slice (some ⟨nb, 0, none⟩) (N + 1) nc) := (bel.cell (p := ⟨g, 0, none⟩) gl).trans C0.out
      have d1 : wr.cell? ⟨nb, (n + 1) * 2, none⟩ = some (.slice (some ⟨pb, 0, none⟩) ps.length ps.length) := (bel.cell (p := ⟨nb, (n + 1) * 2, none⟩) nl).trans p1
      have d3 : wr.cell? ⟨nb, (n + 1) * 2 + 1, none⟩ = some (.slice (some ⟨sb, 0, none⟩) ss.length ss.length) := (bel.cell (p := ⟨nb, (n + 1) * 2 + 1, none⟩) nl).trans p2
      have d2 := qat i _ hx
      have lg : g < wr.heap.size := Nat.lt_of_lt_of_le gl bel.size
      have lnb : nb < wr.heap.size := Nat.lt_of_lt_of_le nl bel.size
      have PB := Lib.hid p3
      have SB := Lib.hid (p4.keep BL.out)
      have BX := Lib.hid (HS.out.1.boxes (.slice (some ⟨pb, 0, none⟩) ps.length ps.length) (.slice (some ⟨sb, 0, none⟩) ss.length ss.length) rfl rfl)
      clear p1 p2 p3 p4 qat hx
      go_wp2_with fail
      go_region
      clear d0 d1 d2 d3
      have N0 := (Blk.new wr #[.slice (some ⟨pb, 0, none⟩) ps.length ps.length, .slice (some ⟨sb, 0, none⟩) ss.length ss.length] 45).drew
      have s1 : (wr.alloc (.cells #[.slice (some ⟨pb, 0, none⟩) ps.length ps.length, .slice (some ⟨sb, 0, none⟩) ss.length ss.length] 45)).drew.heap.size = wr.heap.size + 1 := by simp
      generalize (wr.alloc (.cells #[.slice (some ⟨pb, 0, none⟩) ps.length ps.length, .slice (some ⟨sb, 0, none⟩) ss.length ss.length] 45)).drew = wd at *
      have e0 : wd.cell? ⟨wr.heap.size, 0, none⟩ = some (.slice (some ⟨pb, 0, none⟩) ps.length ps.length) := N0.cell 0
      have e1 : wd.cell? ⟨wr.heap.size, 1, none⟩ = some (.slice (some ⟨sb, 0, none⟩) ss.length ss.length) := N0.cell 1
      generalize wr.heap.size = nB at *
      obtain ⟨P, hP⟩ : ∃ P, ps.length = P := ⟨_, rfl⟩
      obtain ⟨Q, hQ⟩ : ∃ Q, ss.length = Q := ⟨_, rfl⟩
      rw [hP] at BX e0 p5
      rw [hQ] at BX e1 p6
      have HP := Lib.hid hP
      have HQQ := Lib.hid hQ
      clear N0 hP hQ
      go_wp2_with fail
      have J0 := Lib.hid BX.out
      generalize hxB : nB + 1 = xB at *
      clear BX e0 e1 s1
      generalize World.alloc _ _ = w2 at *
      go_loopw [9] (fun s9 wr => ∃ (k c : Nat) (A : Option Addr) (ys : List Int), k ≤ P ∧ s9 = .int .i64 k ∧ Hid (TlI w1 wr u5 ts nB xB (.slice (some ⟨pb, 0, none⟩) P P) A k c ys (.slice (some ⟨sb, 0, none⟩) Q Q) ∧ ys = (ps.take k).map (atL G.live))) (fun s9 _ => P - (intOf s9).toNat)
      case atStart => exact ⟨0, 0, none, [], Nat.zero_le _, rfl, Lib.hid ⟨J0.out, rfl⟩⟩
      case round =>
        clear J0
        obtain ⟨k, c', A, ys, hk, rfl, HJ⟩ := hrel
        have b0 : wr.cell? ⟨nB, 0, none⟩ = some (.slice (some ⟨pb, 0, none⟩) P P) := HJ.out.1.nb.cell 0
        have b1 : wr.cell? ⟨xB, 0, none⟩ = some (.slice A k c') := HJ.out.1.xb.cell 0
        have b2 : wr.cell? ⟨xB, 1, none⟩ = some (.slice (some ⟨sb, 0, none⟩) Q Q) := HJ.out.1.xb.cell 1
        by_cases hlt : k < P
        · obtain ⟨y, hy⟩ : ∃ y, ps[k]? = some y := ⟨_, List.getElem?_eq_getElem (by rw [HP.out]; exact hlt)⟩
          have bel := below_trans BL.out HJ.out.1.sh.bel
          have cy : wr.cell? ⟨pb, k, none⟩ = some (.int .i64 y) := by rw [(PB.out.keep bel).cell]; simp [ints, hy]
          have AT := Lib.hid (fun W (bW : Below wr.drew.heap.size wr.drew W) => rgAt (w := W) (((HQ.out.keep HJ.out.1.sh.bel).keep (below_drew _)).keep bW) (by omega) y)
          have NW := Lib.hid ((TlI.drew HJ.out.1).add (atL G.live y))
          have TK2 := Lib.hid (show ys ++ [atL G.live y] = (ps.take (k + 1)).map (atL G.live) from by rw [HJ.out.2, List.take_add_one, hy, Option.toList_some, List.map_append]; rfl)
          clear hy bel HJ
          generalize atL G.live y = z at *
          have AG : AtG 9 wr.drew z (fun _ => none) wr.drew := rfl
          have b0 : wr.drew.cell? ⟨nB, 0, none⟩ = some (.slice (some ⟨pb, 0, none⟩) P P) := b0
          have b1 : wr.drew.cell? ⟨xB, 0, none⟩ = some (.slice A k c') := b1
          have cy : wr.drew.cell? ⟨pb, k, none⟩ = some (.int .i64 y) := cy
          go_upto_region 11 with (fail)
          refine region_made_tailR (AtG 9 wr.drew z) (AtV (.pointer (some ⟨xB, 0, none⟩)) (.slice A k c') (.slice (some ⟨qb, off, none⟩) M c) (.pointer (some ⟨nB, 0, none⟩)) (.slice (some ⟨pb, 0, none⟩) P P) (.int .i64 k) (.pointer (some ⟨pb, k, none⟩)) (.int .i64 y) (.int .i64 z) (.slice (some ⟨wr.heap.size, 0, none⟩) 1 1)) 10 (by kernel_rfl) (by kernel_rfl) (by kernel_rfl) (atV_some _ _ _ _ _ _ _ _ _ _) AG ?_
          simp only [List.take_succ_cons, List.take_zero, List.drop_succ_cons, List.drop_zero]
          refine wpMadeR_step ?_ ?_
          · intro m' w' hg hag
            go_simp
            exact ⟨rfl, hg.pure _ _ (by decide)⟩
          intro K hK
          rintro _ rfl
          go_simp
          refine hK _ _ ?_
          clear hK K
          refine wpMadeR_step ?_ ?_
          · intro m' w' hg hag
            have q1 := hg.cell b1
            go_simp
            exact ⟨rfl, hg.pure _ _ (by decide)⟩
          intro K hK
          rintro _ rfl
          go_simp
          refine hK _ _ ?_
          clear hK K
          refine wpMadeR_step ?_ ?_
          · intro m' w' hg hag
            go_simp
            exact ⟨rfl, hg.pure _ _ (by decide)⟩
          intro K hK
          rintro _ rfl
          go_simp
          refine hK _ _ ?_
          clear hK K
          refine wpMadeR_step ?_ ?_
          · intro m' w' hg hag
            go_simp
            exact ⟨rfl, hg.pure _ _ (by decide)⟩
          intro K hK
          rintro _ rfl
          go_simp
          refine hK _ _ ?_
          clear hK K
          refine wpMadeR_step ?_ ?_
          · intro m' w' hg hag
            have q1 := hg.cell b0
            go_simp
            exact ⟨rfl, hg.pure _ _ (by decide)⟩
          intro K hK
          rintro _ rfl
          go_simp
          refine hK _ _ ?_
          clear hK K
          refine wpMadeR_step ?_ ?_
          · intro m' w' hg hag
            go_simp
            exact ⟨rfl, hg.pure _ _ (by decide)⟩
          intro K hK
          rintro _ rfl
          go_simp
          refine hK _ _ ?_
          clear hK K
          refine wpMadeR_step ?_ ?_
          · intro m' w' hg hag
            go_simp
            exact ⟨rfl, hg.pure _ _ (by decide)⟩
          intro K hK
          rintro _ rfl
          go_simp
          refine hK _ _ ?_
          clear hK K
          refine wpMadeR_step ?_ ?_
          · intro m' w' hg hag
            have q1 := hg.cell cy
            go_simp
            exact ⟨rfl, hg.pure _ _ (by decide)⟩
          intro K hK
          rintro _ rfl
          go_simp
          refine hK _ _ ?_
          clear hK K
          refine wpMadeR_step ?_ ?_
          · intro m' w' hg hag
            have q1 := AT.out w' hg.bel
            go_simp
            exact q1.mono fun e w2 ⟨he, hw⟩ => ⟨_, he, rfl, by rw [hw]; exact hg.pure _ _ (by decide)⟩
          intro K hK
          rintro _ rfl
          go_simp
          refine hK _ _ ?_
          clear hK K
          refine wpMadeR_step ?_ ?_
          · intro m' w' hg hag
            have h0 : m' 9 = none := hag 9 (.inl rfl)
            obtain ⟨e1, _⟩ : w' = wr.drew ∧ True := ⟨by have := hg; unfold AtG at this; rw [h0] at this; exact this, trivial⟩
            subst e1
            go_simp
            exact ⟨rfl, hg.make h0⟩
          intro K hK
          rintro _ rfl
          go_simp
          refine hK _ _ ?_
          clear hK K
          refine wpMadeR_nil ?_
          intro w3 hg
          obtain ⟨_, e3⟩ := hg.end_ rfl
          subst e3
          clear hg AG b0 b1 cy
          go_wp2_with (first
            | (at_builtin; (refine wpList_append_qu _ rfl _ _ rfl NW.out.1 (by omega) z ⟨wr.heap.size, 0, none⟩ 1 rfl rfl NW.out.2.1 ?_))
            | fail)
          intro A' c2 w4 qu gr
          obtain ⟨f1, f2, f3⟩ := NW.out.2.2 A' c2 w4 qu gr
          have HN2 := Lib.hid (And.intro f3 TK2.out)
          clear NW TK2 qu gr f3 AT b2
          go_wp2
          go_roundw
          case rel => exact ⟨k + 1, c2, A', _, by omega, by go_num, HN2⟩
          case measure => simp [intOf]; omega
        · obtain rfl : k = P := by omega
          have ey := Lib.hid (show ys = ps.map (atL G.live) from by rw [HJ.out.2, List.take_of_length_le (by rw [HP.out]; omega)])
          have DN := Lib.hid (TlI.done (sb := sb) (ss := ss) (by rw [HQQ.out]; exact HJ.out.1) (by rw [ey.out, List.length_map, HP.out]) SB.out)
          rw [HQQ.out] at DN
          clear HJ
          go_wp2_with (first
            | (at_builtin; refine wpList_append_own_at _ rfl _ _ 35 rfl w1.heap.size 45 i0 (.agg #[.slice none 0 0, .slice none 0 0]) 2 48 Try.underlying35 HI0.out.1 HI0.out.2.1 HI0.out.2.2.1 HI0.out.2.2.2 rfl (by decide) _ _ _ rfl DN.out.1 ⟨wr.heap.size, 0, none⟩ 1 1 [.slice A k c', .slice (some ⟨sb, 0, none⟩) Q Q] rfl rfl DN.out.2.1 ?c2 ?c3 ?c4 ?c5 ?_)
            | fail)
          case c2 =>
            intro u hu
            simp only [List.mem_cons, List.not_mem_nil, or_false] at hu
            rcases hu with rfl | rfl <;> rfl
          case c3 => unfold maxLen; omega
          case c4 => omega
          case c5 => exact DN.out.2.2.1
          intro v' w4 ro gr _ _
          have HN2 := Lib.hid (show ShI w1 w4 v' (ts ++ [⟨A, c', ys, sb, ss⟩]) ∧ (ts ++ [(⟨A, c', ys, sb, ss⟩ : Tn)]).map Tn.two = (G.live.take (i + 1)).map fun x => ((G.node x).1.map (atL G.live), (G.node x).2) from ⟨DN.out.2.2.2 v' w4 (by rw [ht]; exact ro) gr, by
            rw [TK.out, List.map_append, HS.out.2, ← ey.out]; rfl⟩)
          clear DN ro gr b0 b1 b2 HS TK ey
          go_wp2
          go_roundw
          case rel => exact ⟨i + 1, _, by omega, by go_num, by rw [List.length_append, List.length_singleton, ht], HN2⟩
          case measure => simp [intOf]; omega
    · obtain rfl : i = M := by omega
      have SH := Lib.hid (show ShI w1 wr u5 ts ∧ ts.map Tn.two = G.shown from ⟨HS.out.1, by
        have e : G.live.take i = G.live := List.take_of_length_le (by rw [HM.out]; exact Nat.le_refl _)
        rw [HS.out.2, e]
        rfl⟩)
      clear HS
      go_wp2_with fail
      have J1 := Lib.hid (HeI.first SH.out.1)
      generalize hwS : wr.heap.size = wS at *
      generalize World.alloc _ _ = w2 at *
      have SH2 := Lib.hid SH.out.2
      clear SH
      go_loopw [10, 11] (fun s10 s11 wr => ∃ (j c : Nat) (A : Option Addr) (ys : List Int), j ≤ K ∧ s11 = .int .i64 j ∧ s10 = .slice A j c ∧ Hid (HeI w1 wr u5 ts A j c ys ∧ ys = (G.hs.take j).map (atL G.live))) (fun _ s11 _ => K - (intOf s11).toNat)
      case atStart => exact ⟨0, 0, _, [], Nat.zero_le _, rfl, rfl, Lib.hid ⟨J1.out, rfl⟩⟩
      case round =>
        clear J1
        obtain ⟨j, c', A', ys, hj, rfl, rfl, HJ⟩ := hrel
        have bel := below_trans BL.out HJ.out.1.sh.bel
        have b1 : wr.cell? ⟨g, 1, none⟩ = some (.slice hA K hc) := (bel.cell (p := ⟨g, 1, none⟩) gl).trans C1.out
        by_cases hlt : j < K
        · obtain ⟨y, hy⟩ : ∃ y, G.hs[j]? = some y := ⟨_, List.getElem?_eq_getElem (by rw [HK.out]; exact hlt)⟩
          obtain ⟨hq, ho, rfl, hqS, cx⟩ := HT.out j y hy
          have cy : wr.cell? ⟨hq, ho + j, none⟩ = some (.int .i64 y) := (bel.cell (p := ⟨hq, ho + j, none⟩) hqS).trans cx
          have AT := Lib.hid ((rgAt (HQ.out.keep HJ.out.1.sh.bel) (by omega) y).mono fun e w3 (h : e = .returned (.int .i64 (atL G.live y)) ∧ w3 = wr) => (show e = .returned (.int .i64 (atL G.live y)) ∧ wr = w3 from ⟨h.1, h.2.symm⟩))
          have NW := Lib.hid (HJ.out.1.add (atL G.live y))
          have TK2 := Lib.hid (show ys ++ [atL G.live y] = (G.hs.take (j + 1)).map (atL G.live) from by rw [HJ.out.2, List.take_add_one, hy, Option.toList_some, List.map_append]; rfl)
          clear hy bel HJ cx hqS
          generalize atL G.live y = z at *
          go_wp2_with fail
          refine AT.out.mono ?_
          rintro e w3 ⟨rfl, rfl⟩
          go_wp2_with (first
            | (at_builtin; (refine wpList_append_qu _ rfl _ _ rfl NW.out.1 (by omega) z ⟨wr.heap.size, 0, none⟩ 1 rfl rfl NW.out.2.1 ?_))
            | fail)
          intro A2 c2 w4 qu gr
          have HN2 := Lib.hid (And.intro (NW.out.2.2 A2 c2 w4 qu gr) TK2.out)
          clear NW TK2 qu gr AT b1 cy
          go_wp2
          go_roundw
          case rel => exact ⟨j + 1, c2, A2, _, by omega, by go_num, rfl, HN2⟩
          case measure => simp [intOf]; omega
        · obtain rfl : j = K := by omega
          have RE : Hid (ShownR w G (.returned (.tuple #[u5, .slice A' j c'])) wr) := Lib.hid (by
            have e : G.hs.take j = G.hs := List.take_of_length_le (by rw [HK.out]; exact Nat.le_refl _)
            have h := HJ.out.1
            have h2 := HJ.out.2
            rw [e] at h2
            refine ⟨w1, u5, ts, A', c', by rw [HK.out], BL.out, h.sh, SH2.out, ?_, fun k hk => Nat.le_trans BL.out.size (h.qlow k hk)⟩
            rw [HK.out]
            have := h.q
            rw [h2] at this
            exact this)
          clear HJ
          go_wp2
          go_ret2
          exact RE.out
end
end Go.Proofs.Ytjjjeeffllelaaa
