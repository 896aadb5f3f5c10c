/- GraphPlays: a graph and the document's, by any script. -/
import Derived.Test.YtjjjeeffllelaaaGgQ
import Derived.Test.YtjjjeeffllelaaaRgJ
import Derived.Test.YtjjjeeffllelaaaMdR
namespace Go.Proofs.Ytjjjeeffllelaaa
open Go.RowKit Go.Maps

/-- An entry by the document's graph. -/
theorem rgDo {w : World} {g : Nat} {S : Nat → Prop} {G : Gr} {k a b c v : Int} (r : Rg w g S G) (hb0 : -9223372036854775808 ≤ b) (hb1 : b ≤ 9223372036854775807) (few : G.ns.length < 1048576) :
    Calls Try.prog 12 #[gP g, sgV k a b c v] w fun e w' => DoR w g S (G.nxt k a b c v) (G.ans k a b c v).1 (G.ans k a b c v).2.1 (G.ans k a b c v).2.2.1 (G.ans k a b c v).2.2.2 e w' := by
  unfold Gr.ans Gr.nxt
  by_cases hk : k = 1 ∨ k = 2 ∨ k = 3 ∨ k = 5 ∨ k = 6 ∨ k = 7
  · rw [if_pos hk, if_pos hk]
    exact rgDo_turns w g S G k a b c v hk hb0 hb1 few r
  · rw [if_neg hk, if_neg hk]
    rcases (show k = 4 ∨ k = 8 ∨ k = 9 ∨ k = 10 ∨ (k = 11 ∨ k = 12) ∨ (k < 1 ∨ 12 < k) by omega) with rfl | rfl | rfl | rfl | h | h
    · exact rgDo_read w g S G a b c v r
    · exact rgDo_same w g S G a b c v r
    · exact rgDo_nil w g S G a b c v r
    · exact rgDo_shape w g S G a b c v r
    · rw [Gr.ask_idle G h]
      exact rgDo_idle w g S G k a b c v h r
    · rw [Gr.ask_other G h]
      exact rgDo_other w g S G k a b c v h r

/-- The program's graph and the document's beside each other, both made since w0: what the one holds, and the other. -/
def Pr (w0 w : World) (g r : Nat) (G H : Gr) : Prop := ∃ S T, Pg w g S G ∧ Rg w r T H ∧ Below w0.heap.size w0 w ∧ (∀ k, S k → w0.heap.size ≤ k) ∧ (∀ k, T k → w0.heap.size ≤ k) ∧ ∀ k, S k → ¬ T k

section
variable {w0 w w' : World} {g r : Nat} {G H : Gr}
theorem Pr.keep (h : Pr w0 w g r G H) (f : Below w.heap.size w w') : Pr w0 w' g r G H := by
  obtain ⟨S, T, p, q, b, l, m, d⟩ := h
  exact ⟨S, T, p.keep f, q.keep f, below_trans b f, l, m, d⟩
theorem Pr.bel (h : Pr w0 w g r G H) : Below w0.heap.size w0 w := by obtain ⟨S, T, p, q, b, _⟩ := h; exact b
theorem Pr.first (h : Pr w0 w g r G H) {k a b c v : Int} (hc0 : -9223372036854775808 ≤ c) (hc1 : c ≤ 9223372036854775807) :
    Calls Try.prog 11 #[gP g, sgV k a b c v] w fun e w' => e = .returned (anV (G.ans k a b c v).1 (G.ans k a b c v).2.1 (G.ans k a b c v).2.2.1 (G.ans k a b c v).2.2.2) ∧ Pr w0 w' g r (G.nxt k a b c v) H := by
  obtain ⟨S, T, p, q, bb, l, m, d⟩ := h
  refine (pgDo p hc0 hc1).mono ?_
  rintro e w' ⟨he, S', p', mv⟩
  exact ⟨he, S', T, p', q.frm mv.frm fun j hj e => d j e hj, Below.frm bb mv.frm bb.size fun j hj e => by have := l j e; omega, fun j hj => (mv.at_ j hj).elim (l j) fun e => Nat.le_trans bb.size e, m,
    fun j hj ht => (mv.at_ j hj).elim (fun e => d j e ht) fun e => by have := q.lt ht; omega⟩
theorem Pr.second (h : Pr w0 w g r G H) {k a b c v : Int} (hb0 : -9223372036854775808 ≤ b) (hb1 : b ≤ 9223372036854775807) (few : H.ns.length < 1048576) :
    Calls Try.prog 12 #[gP r, sgV k a b c v] w fun e w' => e = .returned (anV (H.ans k a b c v).1 (H.ans k a b c v).2.1 (H.ans k a b c v).2.2.1 (H.ans k a b c v).2.2.2) ∧ Pr w0 w' g r G (H.nxt k a b c v) := by
  obtain ⟨S, T, p, q, bb, l, m, d⟩ := h
  refine (rgDo q hb0 hb1 few).mono ?_
  rintro e w' ⟨he, T', q', mv⟩
  exact ⟨he, S, T', p.frm mv.frm fun j hj e => d j hj e, q', Below.frm bb mv.frm bb.size fun j hj e => by have := m j e; omega, l, fun j hj => (mv.at_ j hj).elim (m j) fun e => Nat.le_trans bb.size e,
    fun j hj ht => (mv.at_ j ht).elim (fun e => d j hj e) fun e => by have := p.lt hj; omega⟩
theorem Pr.wordsP (h : Pr w0 w g r G H) (few : G.ns.length ≤ 1048576) : Calls Try.prog 13 #[gP g] w fun e w' => e = .returned (.int .i64 G.words) ∧ Pr w0 w' g r G H := by
  obtain ⟨S, T, p, q, _⟩ := id h
  exact (pgWords p few).mono fun e w' ⟨h1, b⟩ => ⟨h1, h.keep b⟩
theorem Pr.wordsR (h : Pr w0 w g r G H) : Calls Try.prog 14 #[gP r] w fun e w' => e = .returned (.int .i64 H.words) ∧ Pr w0 w' g r G H := by
  obtain ⟨S, T, p, q, _⟩ := id h
  exact (rgWords q).mono fun e w' ⟨h1, b⟩ => ⟨h1, h.keep b⟩
end

theorem RdI.keepB {k : IntKind} {w w' : World} {A : Option Addr} {xs : List Int} (h : RdI k w A xs) (f : Below w.heap.size w w') : RdI k w' A xs := fun i x hx => by
  obtain ⟨g, off, e, c⟩ := h i x hx
  exact ⟨g, off, e, (f.cell (p := ⟨g, off + i, none⟩) (cell_lt c)).trans c⟩
theorem NdR.keepB {w w' : World} {A : Option Addr} {ns : List Two} (h : NdR w A ns) (f : Below w.heap.size w w') : NdR w' A ns := fun i y hy => by
  obtain ⟨g, off, A1, c1, A2, c2, e, d1, d2, r1, r2, l1, l2⟩ := h i y hy
  exact ⟨g, off, A1, c1, A2, c2, e, (f.cell (p := ⟨g, off + i * 2, none⟩) (cell_lt d1)).trans d1, (f.cell (p := ⟨g, off + i * 2 + 1, none⟩) (cell_lt d2)).trans d2, r1.keepB f, r2.keepB f, l1, l2⟩

/-- What Shown told. -/
def TellR (w : World) (G : Gr) (e : Ending) (w' : World) : Prop :=
  ∃ Aa ca Ax cx, e = .returned (.tuple #[.slice Aa G.live.length ca, .slice Ax G.hs.length cx]) ∧ Below w.heap.size w w' ∧ NdR w' Aa G.shown ∧ RdI .i64 w' Ax G.heldAt
theorem rgTell {w : World} {g : Nat} {S : Nat → Prop} {G : Gr} (r : Rg w g S G) (sz : G.Sz) : Calls Try.prog 16 #[gP g] w (TellR w G) := by
  refine (rgShown r).mono ?_
  rintro e w' ⟨w0, v, ts, A, c, rfl, b0, sh, ets, q, lo⟩
  obtain ⟨Aa, ca, rfl, hc⟩ := own_cells sh.row
  have hl : ts.length = G.live.length := by
    have := congrArg List.length ets
    rw [List.length_map] at this
    rw [this, Gr.shown, List.length_map]
  refine ⟨Aa, ca, A, c, by rw [hl], below_trans b0 sh.bel, fun i y hy => ?_, (q.rdl (B := 0) fun _ _ => Nat.zero_le _).rd⟩
  have sz := sz.shown y (List.mem_of_getElem? hy)
  rw [← ets, List.getElem?_map] at hy
  obtain ⟨t, ht, rfl⟩ := Option.map_eq_some_iff.1 hy
  have mem := List.mem_of_getElem? ht
  obtain ⟨gq, e1, hB, hlt, d1⟩ := hc (i * 2 + 0) _ ((tnV_at ht (by decide)).trans rfl)
  obtain ⟨gq', e2, _, _, d2⟩ := hc (i * 2 + 1) _ ((tnV_at ht (by decide)).trans rfl)
  rw [e1] at e2
  cases e2
  obtain ⟨hq, hlo⟩ := sh.ps t mem
  have hs := (sh.ss t mem).keep sh.bel
  refine ⟨gq, 0, t.A, t.c, some ⟨t.sb, 0, none⟩, t.ss.length, e1, by rw [Nat.zero_add]; exact d1, by rw [Nat.zero_add]; exact d2, (hq.rdl (B := 0) fun _ _ => Nat.zero_le _).rd, fun j x hx => ?_, by have := sz.1; omega, by have := sz.2; omega⟩
  have hx : t.ss[j]? = some x := hx
  exact ⟨t.sb, 0, rfl, by rw [Nat.zero_add, hs.cell]; simp [wordsU, hx]⟩

/-- Where the region stands that carries an entry out on both. -/
structure PlG (w0 : World) (g r : Nat) (G : Gr) (k a b c v : Int) (mm : Made) (W : World) : Prop where
  pr : Pr w0 W g r (if (mm 5).isSome then G.nxt k a b c v else G) (if (mm 11).isSome then G.nxt k a b c v else G)
  i5 : ∀ u, mm 5 = some u → u = anV (G.ans k a b c v).1 (G.ans k a b c v).2.1 (G.ans k a b c v).2.2.1 (G.ans k a b c v).2.2.2
  i11 : ∀ u, mm 11 = some u → u = anV (G.ans k a b c v).1 (G.ans k a b c v).2.1 (G.ans k a b c v).2.2.1 (G.ans k a b c v).2.2.2

def PlV (g r : Nat) (sv : Value) (iv pv st an : Value) : Nat → Value → Prop
  | 0, u => u = gP g
  | 1, u => u = sv
  | 2, u => u = iv
  | 3, u => u = pv
  | 4, u => u = st
  | 5, u => u = an
  | 6, u => u = gP r
  | 7, u => u = sv
  | 8, u => u = iv
  | 9, u => u = pv
  | 10, u => u = st
  | _, u => u = an
theorem plV_some (g r : Nat) (sv : Value) (iv pv st an : Value) (k : Nat) : ∃ u, PlV g r sv iv pv st an k u := by
  rcases k with _ | _ | _ | _ | _ | _ | _ | _ | _ | _ | _ | k
  all_goals exact ⟨_, rfl⟩

section
variable {w0 W : World} {g r : Nat} {G : Gr} {k a b c v : Int} {mm : Made}
theorem PlG.pure (h : PlG w0 g r G k a b c v mm W) (i : Nat) (u : Value) (hi : i ≠ 5 ∧ i ≠ 11) : PlG w0 g r G k a b c v (mm.upd i u) W := by
  have e5 : (mm.upd i u) 5 = mm 5 := Made.upd_ne u (Ne.symm hi.1)
  have e11 : (mm.upd i u) 11 = mm 11 := Made.upd_ne u (Ne.symm hi.2)
  exact ⟨by rw [e5, e11]; exact h.pr, by rw [e5]; exact h.i5, by rw [e11]; exact h.i11⟩
theorem PlG.first (h : PlG w0 g r G k a b c v mm W) (h0 : mm 5 = none) (hc0 : -9223372036854775808 ≤ c) (hc1 : c ≤ 9223372036854775807) :
    Calls Try.prog 11 #[gP g, sgV k a b c v] W fun e w' => ∃ u, e = .returned u ∧ u = anV (G.ans k a b c v).1 (G.ans k a b c v).2.1 (G.ans k a b c v).2.2.1 (G.ans k a b c v).2.2.2 ∧ PlG w0 g r G k a b c v (mm.upd 5 u) w' := by
  have p := h.pr
  rw [h0] at p
  refine (p.first hc0 hc1).mono ?_
  rintro e w' ⟨rfl, p2⟩
  refine ⟨_, rfl, rfl, ?_, fun u hu => (Option.some.inj hu).symm, ?_⟩
  · rw [show (mm.upd 5 _) 11 = mm 11 from Made.upd_ne _ (by decide)]
    exact p2
  · rw [show (mm.upd 5 _) 11 = mm 11 from Made.upd_ne _ (by decide)]
    exact h.i11
theorem PlG.second (h : PlG w0 g r G k a b c v mm W) (h0 : mm 11 = none) (hb0 : -9223372036854775808 ≤ b) (hb1 : b ≤ 9223372036854775807) (few : G.ns.length < 1048576) :
    Calls Try.prog 12 #[gP r, sgV k a b c v] W fun e w' => ∃ u, e = .returned u ∧ u = anV (G.ans k a b c v).1 (G.ans k a b c v).2.1 (G.ans k a b c v).2.2.1 (G.ans k a b c v).2.2.2 ∧ PlG w0 g r G k a b c v (mm.upd 11 u) w' := by
  have p := h.pr
  rw [h0] at p
  refine (p.second hb0 hb1 few).mono ?_
  rintro e w' ⟨rfl, p2⟩
  refine ⟨_, rfl, rfl, ?_, ?_, fun u hu => (Option.some.inj hu).symm⟩
  · rw [show (mm.upd 11 _) 5 = mm 5 from Made.upd_ne _ (by decide)]
    exact p2
  · rw [show (mm.upd 11 _) 5 = mm 5 from Made.upd_ne _ (by decide)]
    exact h.i5
end

attribute [local go_sem] madeUpon

set_option maxHeartbeats 16000000 in
set_option maxRecDepth 100000 in
theorem graphPlays_walk (hn l : Int) (Aq : Option Addr) (n cp : Nat) (w : World) (rd : RdSt w Aq n) (_ : n ≤ cp) (_ : cp ≤ maxLen) :
    Calls Try.prog 3 #[.int .i64 hn, .int .i64 l, .slice Aq n cp] w fun e w' => e = .returned (.bool true) ∧ Below w.heap.size w w' := by
  have RD := Lib.hid rd
  have HN := Lib.hid (pgNew hn l w)
  have HH : Hid ((Gr.new hn l).hs.length ≤ 64) := Lib.hid (by rw [Gr.new_hs, List.length_replicate]; unfold nhI; omega)
  clear rd
  unfold gP at *
  go_enter Try.func3, Try.ntmps3
  go_wp2_with fail
  refine HN.out.mono ?_
  rintro e w1 ⟨g, rfl, S, p1, b1, l1⟩
  have P1 := Lib.hid (And.intro p1 (And.intro b1 l1))
  clear p1 b1 l1 HN
  go_wp2_with fail
  refine (rgNew_any hn l w1).mono ?_
  rintro e w2 ⟨r, rfl, T, q1, b2, l2⟩
  have KL : Hid (Pr w w2 g r (Gr.new hn l) (Gr.new hn l)) := Lib.hid ⟨S, T, P1.out.1.keep b2, q1, below_trans P1.out.2.1 b2, P1.out.2.2, fun j hj => Nat.le_trans P1.out.2.1.size (l2 j hj), fun j hj ht => by have := P1.out.1.lt hj; have := l2 j ht; omega⟩
  clear q1 b2 l2 P1
  go_wp2_with fail
  go_loopw [9] (fun s wr => ∃ (i : Nat) (G : Gr), i ≤ n ∧ i ≤ 100 ∧ G.ns.length ≤ i ∧ Hid (G.hs.length ≤ 64) ∧ s = .int .i64 i ∧ Hid (Pr w wr g r G G)) (fun s _ => n - (intOf s).toNat)
  case atStart => exact ⟨0, _, Nat.zero_le _, Nat.zero_le _, Nat.le_refl _, HH, rfl, KL⟩
  case round =>
    clear KL HH
    obtain ⟨i, G, hi, hi2, hm, hl, rfl, HK⟩ := hrel
    by_cases hlt : i < n ∧ i < 100
    · obtain ⟨h1, h2⟩ := hlt
      obtain ⟨ad, k, a, b, c, v, rfl, ip, iq, hcell⟩ := RD.out i h1
      have h3 : (i : Int) < (n : Int) := by omega
      have h4 : (i : Int) < 100 := by omega
      have h5 : (0 : Int) ≤ (i : Int) := by omega
      have HC := Lib.hid hcell
      have LN := Lib.hid (And.intro (Gr.nxt_ns G k a b c v) (by rw [Gr.nxt_hs]; exact hl.out : (G.nxt k a b c v).hs.length ≤ 64))
      have GG : Hid (PlG w g r G k a b c v (fun _ => none) wr.drew) := Lib.hid ⟨HK.out.keep (below_drew _), fun u e => (by cases e), fun u e => (by cases e)⟩
      obtain ⟨R, hR⟩ : ∃ R : Nat, (i : Int) % 10 = R := ⟨((i : Int) % 10).toNat, by omega⟩
      have hR2 : Int.tmod (i : Int) 10 = R := by rw [Int.tmod_eq_emod_of_nonneg h5]; exact hR
      clear hcell HK hl hR
      go_upto_region 5 with (fail)
      refine region_made_tailR (PlG w g r G k a b c v) (PlV g r (.slice (some ad) n cp) (.int .i64 i) (.pointer (some (ad.add (i * 5)))) (sgV k a b c v) (anV (G.ans k a b c v).1 (G.ans k a b c v).2.1 (G.ans k a b c v).2.2.1 (G.ans k a b c v).2.2.2)) 12 (by kernel_rfl) (by kernel_rfl) (by kernel_rfl) (plV_some _ _ _ _ _ _ _) GG.out ?_
      simp only [List.take_succ_cons, List.take_zero, List.drop_succ_cons, List.drop_zero]
      refine wpMadeR_step ?_ ?_
      · intro m' w' hg hag
        go_simp
        exact ⟨rfl, hg.pure _ _ (by decide)⟩
      intro K hK
      rintro _ rfl
      go_simp
      refine hK _ _ ?_
      clear hK K
      refine wpMadeR_step ?_ ?_
      · intro m' w' hg hag
        go_simp
        exact ⟨rfl, hg.pure _ _ (by decide)⟩
      intro K hK
      rintro _ rfl
      go_simp
      refine hK _ _ ?_
      clear hK K
      refine wpMadeR_step ?_ ?_
      · intro m' w' hg hag
        go_simp
        exact ⟨rfl, hg.pure _ _ (by decide)⟩
      intro K hK
      rintro _ rfl
      go_simp
      refine hK _ _ ?_
      clear hK K
      refine wpMadeR_step ?_ ?_
      · intro m' w' hg hag
        go_simp
        exact ⟨rfl, hg.pure _ _ (by decide)⟩
      intro K hK
      rintro _ rfl
      go_simp
      refine hK _ _ ?_
      clear hK K
      refine wpMadeR_step ?_ ?_
      · intro m' w' hg hag
        obtain ⟨c0, c1, c2, c3, c4⟩ := HC.out w' hg.pr.bel
        go_simp
        exact ⟨rfl, hg.pure _ _ (by decide)⟩
      intro K hK
      rintro _ rfl
      go_simp
      refine hK _ _ ?_
      clear hK K
      refine wpMadeR_step ?_ ?_
      · intro m' w' hg hag
        have h0 : m' 5 = none := hag 5 (.inl rfl)
        have q1 := hg.first h0 iq.1 iq.2
        go_simp
        exact q1
      intro K hK
      rintro _ rfl
      go_simp
      refine hK _ _ ?_
      clear hK K
      refine wpMadeR_step ?_ ?_
      · intro m' w' hg hag
        go_simp
        exact ⟨rfl, hg.pure _ _ (by decide)⟩
      intro K hK
      rintro _ rfl
      go_simp
      refine hK _ _ ?_
      clear hK K
      refine wpMadeR_step ?_ ?_
      · intro m' w' hg hag
        go_simp
        exact ⟨rfl, hg.pure _ _ (by decide)⟩
      intro K hK
      rintro _ rfl
      go_simp
      refine hK _ _ ?_
      clear hK K
      refine wpMadeR_step ?_ ?_
      · intro m' w' hg hag
        go_simp
        exact ⟨rfl, hg.pure _ _ (by decide)⟩
      intro K hK
      rintro _ rfl
      go_simp
      refine hK _ _ ?_
      clear hK K
      refine wpMadeR_step ?_ ?_
      · intro m' w' hg hag
        go_simp
        exact ⟨rfl, hg.pure _ _ (by decide)⟩
      intro K hK
      rintro _ rfl
      go_simp
      refine hK _ _ ?_
      clear hK K
      refine wpMadeR_step ?_ ?_
      · intro m' w' hg hag
        obtain ⟨c0, c1, c2, c3, c4⟩ := HC.out w' hg.pr.bel
        go_simp
        exact ⟨rfl, hg.pure _ _ (by decide)⟩
      intro K hK
      rintro _ rfl
      go_simp
      refine hK _ _ ?_
      clear hK K
      refine wpMadeR_step ?_ ?_
      · intro m' w' hg hag
        have h0 : m' 11 = none := hag 11 (.inl rfl)
        have q1 := hg.second h0 ip.1 ip.2 (by omega)
        go_simp
        exact q1
      intro K hK
      rintro _ rfl
      go_simp
      refine hK _ _ ?_
      clear hK K
      refine wpMadeR_nil ?_
      intro w3 hg
      have K3 : Hid (Pr w w3 g r (G.nxt k a b c v) (G.nxt k a b c v)) := Lib.hid hg.pr
      clear hg GG
      generalize G.ans k a b c v = an at *
      obtain ⟨E, Y, N, V⟩ := an
      have hm2 : (G.nxt k a b c v).ns.length ≤ i + 1 := by have := LN.out.1; omega
      have LH := Lib.hid LN.out.2
      clear LN HC hm
      generalize G.nxt k a b c v = G2 at *
      by_cases r0 : R = 0
      · subst r0
        have W1 := Lib.hid (K3.out.wordsP (by omega))
        go_wp2_with fail
        refine W1.out.mono ?_
        rintro e w4 ⟨rfl, k4⟩
        have W2 := Lib.hid k4.wordsR
        clear k4 W1 K3
        go_wp2_with fail
        refine W2.out.mono ?_
        rintro e w5 ⟨rfl, k5⟩
        have K5 := Lib.hid k5
        clear k5 W2
        go_wp2
        go_roundw
        case rel => exact ⟨i + 1, G2, by omega, by omega, by omega, LH, by go_num, K5⟩
        case measure => simp [intOf]; omega
      · have rf : ((R : Int) == 0) = false := by simp; omega
        go_wp2
        go_roundw
        case rel => exact ⟨i + 1, G2, by omega, by omega, by omega, LH, by go_num, K3⟩
        case measure => simp [intOf]; omega
    · have hx : (¬ (i : Int) < (n : Int)) ∨ ((i : Int) < (n : Int) ∧ ¬ (i : Int) < 100) := by omega
      have h5 : (0 : Int) ≤ (i : Int) := by omega
      have sz : G.Sz := by obtain ⟨S, T, p, _⟩ := HK.out; exact p.sz
      have lf : G.live.length ≤ 100 := by
        obtain ⟨S, T, p, _⟩ := HK.out
        have := p.ok.live.few
        omega
      have SZ := Lib.hid sz
      have T1 : Hid (Calls Try.prog 15 #[gP g] wr fun e w' => TellP wr G e w' ∧ Pr w w' g r G G) := Lib.hid (by
        obtain ⟨S, T, p, _⟩ := HK.out
        refine (pgTell p (by omega)).mono fun e w' ht => ⟨ht, ?_⟩
        obtain ⟨_, _, _, _, _, f, _⟩ := ht
        exact HK.out.keep f)
      clear HK sz
      unfold gP at *
      rcases hx with hx | ⟨hx, hx2⟩
      all_goals
        go_wp2_with fail
        refine T1.out.mono ?_
        rintro e w4 ⟨⟨Aa, ca, Ax, cx, rfl, b4, TP⟩, k4⟩
        have T2 : Hid (Calls Try.prog 16 #[gP r] w4 fun e w' => TellR w4 G e w' ∧ Pr w w' g r G G) := Lib.hid (by
          obtain ⟨S, T, p, q, _⟩ := id k4
          refine (rgTell q SZ.out).mono fun e w' ht => ⟨ht, ?_⟩
          obtain ⟨_, _, _, _, _, f, _⟩ := ht
          exact k4.keep f)
        have TT := Lib.hid TP
        clear b4 TP k4 T1
        unfold gP at *
        go_wp2_with fail
        refine T2.out.mono ?_
        rintro e w5 ⟨⟨Ab, cb, Ay, cy, rfl, b5, N5, R5⟩, k5⟩
        have K5 := Lib.hid k5
        have U5 := Lib.hid (And.intro (TT.out.keep b5) (And.intro N5 R5))
        clear b5 N5 R5 k5 T2 TT
        go_wp2_with fail
        refine (awake18_walk _).mono ?_
        rintro e w6 ⟨rfl, b6⟩
        have K6 := Lib.hid (K5.out.keep b6)
        have SM : Hid (Calls Try.prog 18 #[.slice Aa G.live.length ca, .slice Ax G.hs.length cx, .slice Ab G.live.length cb, .slice Ay G.hs.length cy] w6 fun e w' => e = .returned (.bool true) ∧ Below w6.heap.size w6 w') := Lib.hid (by
          have l1 : G.shown.length = G.live.length := by rw [Gr.shown, List.length_map]
          have l2 : G.heldAt.length = G.hs.length := by rw [Gr.heldAt, List.length_map]
          have T6 := U5.out.1.keep b6
          have := same_told (ca := ca) (cx := cx) (cb := cb) (cy := cy) T6.nd.nd T6.rd.rd (U5.out.2.1.keepB b6) (U5.out.2.2.keepB b6) (by rw [l1]; omega) (by rw [l2]; have := hl.out; omega)
          rw [l1, l2] at this
          refine this.mono ?_
          rintro e w' ⟨he, hb⟩
          exact ⟨by rw [he, decide_eq_true ⟨rfl, rfl⟩], hb⟩)
        clear b6 K5 U5
        go_wp2_with fail
        refine SM.out.mono ?_
        rintro e w7 ⟨rfl, b7⟩
        have W1 := Lib.hid ((K6.out.keep b7).wordsP (by omega))
        clear b7 SM K6
        unfold gP at *
        go_wp2_with fail
        refine W1.out.mono ?_
        rintro e w8 ⟨rfl, k8⟩
        have W2 := Lib.hid k8.wordsR
        clear k8 W1
        unfold gP at *
        go_wp2_with fail
        refine W2.out.mono ?_
        rintro e w9 ⟨rfl, k9⟩
        have B9 := Lib.hid k9.bel
        clear k9 W2
        go_wp2
        go_ret
        exact ⟨rfl, B9.out⟩
end Go.Proofs.Ytjjjeeffllelaaa
