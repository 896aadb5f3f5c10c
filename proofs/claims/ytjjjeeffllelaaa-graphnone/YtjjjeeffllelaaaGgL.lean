/- The program's graph: Nodes, all that handles come to as it is told. -/
import Derived.Test.YtjjjeeffllelaaaGgK
import Derived.Test.YtjjjeeffllelaaaMdR
namespace Go.Proofs.Ytjjjeeffllelaaa
open Go.RowKit Go.Maps

/-- A node that is told: numbers in the slice (A, c), scalars in the slice sv. -/
structure Tp where
  A : Option Addr
  c : Nat
  ps : List Int
  sv : Value
  ss : List Int
def Tp.vs (t : Tp) : List Value := [.slice t.A t.ps.length t.c, t.sv]
def Tp.two (t : Tp) : List Int × List Int := (t.ps, t.ss)
def tpV (ts : List Tp) : List Value := ts.flatMap Tp.vs
theorem tpV_length (ts : List Tp) : (tpV ts).length = ts.length * 2 := by
  induction ts with
  | nil => rfl
  | cons t ts ih =>
    unfold tpV at ih ⊢
    rw [List.flatMap_cons, List.length_append, ih, List.length_cons]
    simp [Tp.vs]
    omega
theorem tpV_snoc (ts : List Tp) (t : Tp) : tpV (ts ++ [t]) = tpV ts ++ t.vs := by simp [tpV, List.flatMap_append]

/-- What was told so far lies in the slice v, in memory that was made since w0. -/
structure ShP (w0 w : World) (v : Value) (ts : List Tp) : Prop where
  bel : Below w0.heap.size w0 w
  row : w.ownsRow w0.heap.size 45 2 v ts.length (tpV ts)
  ps : ∀ t ∈ ts, Qu w t.A t.ps.length t.c t.ps ∧ ∀ k, blkOf t.A = some k → w0.heap.size ≤ k
  ss : ∀ t ∈ ts, w.ownsRow w0.heap.size 28 1 t.sv t.ss.length (wordsU t.ss)

theorem own_base {w : World} {b b' : Nat} {e : TypeId} {k n : Nat} {v : Value} {xs : List Value} (h : w.ownsRow b e k v n xs) (hb : b' ≤ b) : w.ownsRow b' e k v n xs := by
  obtain ⟨hl, hv⟩ := h
  refine ⟨hl, hv.imp id ?_⟩
  rintro ⟨g, cap, cur, e1, hB, r⟩
  exact ⟨g, cap, cur, e1, Nat.le_trans hb hB, r⟩

section
variable {w0 w w' : World} {v : Value} {ts : List Tp}
theorem ShP.keep (h : ShP w0 w v ts) (f : Below w.heap.size w w') : ShP w0 w' v ts :=
  ⟨below_trans h.bel f, row_frm h.row (Frm.of_below (S := fun _ => False) f) fun _ _ e => e, fun t ht => ⟨(h.ps t ht).1.keep f, (h.ps t ht).2⟩, fun t ht => row_frm (h.ss t ht) (Frm.of_below (S := fun _ => False) f) fun _ _ e => e⟩
theorem ShP.first (w : World) : ShP w w (.slice none 0 0) [] := ⟨Below.refl _ _, World.ownsRow_nil _ _ _ _, fun t h => (by cases h), fun t h => (by cases h)⟩
theorem ShP.add (h : ShP w0 w v ts) (t : Tp) (hq : Qu w t.A t.ps.length t.c t.ps) (low : ∀ k, blkOf t.A = some k → w0.heap.size ≤ k) (hs : w.ownsRow w0.heap.size 28 1 t.sv t.ss.length (wordsU t.ss)) {v' : Value} {w2 : World}
    (ro : w2.ownsRow w0.heap.size 45 2 v' (ts.length + 1) (tpV ts ++ t.vs)) (gr : w.grownBy w2 v.ownBlock) : ShP w0 w2 v' (ts ++ [t]) := by
  have fr := grown_frm gr
  have no : ∀ {b : Nat} {cs : Array Value} {ty : TypeId}, Blk w b cs ty → ty ≠ 45 → ¬ v.ownBlock = some b := fun hb ht e => by
    obtain ⟨_, cur, hc⟩ := row_blk h.row e
    exact Blk.ne_ hb hc ht rfl
  have nq : ∀ {A : Option Addr} {n c : Nat} {ys : List Int}, Qu w A n c ys → ∀ k, blkOf A = some k → ¬ v.ownBlock = some k := fun q k hk => by
    obtain ⟨cs, hb⟩ := q.ty hk
    exact no hb (by decide)
  have ns : ∀ {sv : Value} {n : Nat} {xs : List Value}, w.ownsRow w0.heap.size 28 1 sv n xs → ∀ k, sv.ownBlock = some k → ¬ v.ownBlock = some k := fun q k hk => by
    obtain ⟨_, cur, hc⟩ := row_blk q hk
    exact no hc (by decide)
  refine ⟨Below.frm h.bel fr h.bel.size fun j hj e => by have := (row_blk h.row e).1; omega, by rw [List.length_append, List.length_singleton, tpV_snoc]; exact ro, fun z hz => ?_, fun z hz => ?_⟩
  · rcases List.mem_append.1 hz with hz | hz
    · exact ⟨(h.ps z hz).1.frm fr (nq (h.ps z hz).1), (h.ps z hz).2⟩
    · rw [List.mem_singleton] at hz
      subst hz
      exact ⟨hq.frm fr (nq hq), low⟩
  · rcases List.mem_append.1 hz with hz | hz
    · exact row_frm (h.ss z hz) fr (ns (h.ss z hz))
    · rw [List.mem_singleton] at hz
      subst hz
      exact row_frm hs fr (ns hs)
end

/-- Where the region stands that tells a node: its numbers, its scalars, both, and the box of both. -/
structure NoG (w0 wd : World) (P Q : Nat) (ns ss : List Int) (mm : Made) (W : World) : Prop where
  bel : Below wd.heap.size wd W
  i6 : ∀ v, mm 6 = some v → ∃ A c, v = .slice A P c ∧ Qu W A P c ns ∧ ∀ k, blkOf A = some k → w0.heap.size ≤ k
  i11 : ∀ v, mm 11 = some v → ∃ B d, v = .slice B Q d ∧ W.ownsRow w0.heap.size 28 1 (.slice B Q d) Q (wordsU ss)
  i12 : ∀ v, mm 12 = some v → ∃ u6 u11, v = .agg #[u6, u11] ∧ mm 6 = some u6 ∧ mm 11 = some u11
  i13 : ∀ v, mm 13 = some v → ∃ q u6 u11, v = .slice (some ⟨q, 0, none⟩) 1 1 ∧ mm 6 = some u6 ∧ mm 11 = some u11 ∧ Blk W q #[u6, u11] 45

def NoV (nv : Value) (nb mb pb sb P Q : Nat) : Nat → Value → Prop
  | 0, v => v = nv
  | 3, v => v = .pointer (some ⟨nb, 0, none⟩)
  | 4, v => v = .slice (some ⟨pb, 0, none⟩) P P
  | 5, v => v = .map (some mb)
  | 6, v => ∃ A c, v = .slice A P c
  | 9, v => v = .pointer (some ⟨nb, 1, none⟩)
  | 10, v => v = .slice (some ⟨sb, 0, none⟩) Q Q
  | 11, v => ∃ B d, v = .slice B Q d
  | 12, v => ∃ A c B d, v = .agg #[.slice A P c, .slice B Q d]
  | 13, v => ∃ q, v = .slice (some ⟨q, 0, none⟩) 1 1
  | _, v => v = .pointer (some ⟨nb, 0, none⟩)
theorem noV_some (nv : Value) (nb mb pb sb P Q : Nat) (k : Nat) : ∃ v, NoV nv nb mb pb sb P Q k v := by
  rcases k with _ | _ | _ | _ | _ | _ | _ | _ | _ | _ | _ | _ | _ | _ | k
  all_goals first | exact ⟨_, rfl⟩ | exact ⟨_, none, 0, rfl⟩ | exact ⟨_, none, 0, none, 0, rfl⟩ | exact ⟨_, 0, rfl⟩

section
variable {w0 wd W : World} {P Q : Nat} {ns ss : List Int} {mm : Made}

theorem NoG.start (w0 wd : World) (P Q : Nat) (ns ss : List Int) : NoG w0 wd P Q ns ss (fun _ => none) wd :=
  ⟨Below.refl _ _, fun v e => (by cases e), fun v e => (by cases e), fun v e => (by cases e), fun v e => (by cases e)⟩
theorem NoG.cell (h : NoG w0 wd P Q ns ss mm W) {a : Addr} {v : Value} (e : wd.cell? a = some v) : W.cell? a = some v := by
  have lt : a.block < wd.heap.size := by
    by_cases hb : a.block < wd.heap.size
    · exact hb
    · exfalso
      unfold World.cell? at e
      rw [Array.getElem?_eq_none (by omega)] at e
      simp at e
  exact (h.bel.cell lt).trans e
theorem NoG.pure (h : NoG w0 wd P Q ns ss mm W) (i : Nat) (v : Value) (hi : i ≠ 6 ∧ i ≠ 11 ∧ i ≠ 12 ∧ i ≠ 13) : NoG w0 wd P Q ns ss (mm.upd i v) W := by
  have e6 : (mm.upd i v) 6 = mm 6 := Made.upd_ne v (Ne.symm hi.1)
  have e11 : (mm.upd i v) 11 = mm 11 := Made.upd_ne v (Ne.symm hi.2.1)
  have e12 : (mm.upd i v) 12 = mm 12 := Made.upd_ne v (Ne.symm hi.2.2.1)
  have e13 : (mm.upd i v) 13 = mm 13 := Made.upd_ne v (Ne.symm hi.2.2.2)
  exact ⟨h.bel, by rw [e6]; exact h.i6, by rw [e11]; exact h.i11, by rw [e12, e6, e11]; exact h.i12, by rw [e13, e6, e11]; exact h.i13⟩
theorem NoG.keepQ (h : NoG w0 wd P Q ns ss mm W) {W' : World} (f : Below W.heap.size W W') : NoG w0 wd P Q ns ss mm W' :=
  ⟨below_trans h.bel f, fun v e => (by obtain ⟨A, c, e1, q, l⟩ := h.i6 v e; exact ⟨A, c, e1, q.keep f, l⟩), fun v e => (by obtain ⟨B, d, e1, r⟩ := h.i11 v e; exact ⟨B, d, e1, row_frm r (Frm.of_below (S := fun _ => False) f) fun _ _ e => e⟩), h.i12,
    fun v e => (by obtain ⟨q, u6, u11, e1, e2, e3, hb⟩ := h.i13 v e; exact ⟨q, u6, u11, e1, e2, e3, hb.keep f⟩)⟩
theorem NoG.set6 (h : NoG w0 wd P Q ns ss mm W) (h0 : mm 6 = none) {A : Option Addr} {c : Nat} (q : Qu W A P c ns) (l : ∀ k, blkOf A = some k → w0.heap.size ≤ k) : NoG w0 wd P Q ns ss (mm.upd 6 (.slice A P c)) W := by
  have e11 : (mm.upd 6 (.slice A P c)) 11 = mm 11 := Made.upd_ne _ (by decide)
  have e12 : (mm.upd 6 (.slice A P c)) 12 = mm 12 := Made.upd_ne _ (by decide)
  have e13 : (mm.upd 6 (.slice A P c)) 13 = mm 13 := Made.upd_ne _ (by decide)
  refine ⟨h.bel, fun v e => ?_, by rw [e11]; exact h.i11, fun v e => ?_, fun v e => ?_⟩
  · have e1 : some (Value.slice A P c) = some v := e
    cases e1
    exact ⟨A, c, rfl, q, l⟩
  · rw [e12] at e
    obtain ⟨u6, _, _, k, _⟩ := h.i12 v e
    rw [h0] at k; cases k
  · rw [e13] at e
    obtain ⟨_, u6, _, _, k, _⟩ := h.i13 v e
    rw [h0] at k; cases k
theorem NoG.set11 (h : NoG w0 wd P Q ns ss mm W) (h0 : mm 11 = none) {B : Option Addr} {d : Nat} (q : W.ownsRow w0.heap.size 28 1 (.slice B Q d) Q (wordsU ss)) : NoG w0 wd P Q ns ss (mm.upd 11 (.slice B Q d)) W := by
  have e6 : (mm.upd 11 (.slice B Q d)) 6 = mm 6 := Made.upd_ne _ (by decide)
  have e12 : (mm.upd 11 (.slice B Q d)) 12 = mm 12 := Made.upd_ne _ (by decide)
  have e13 : (mm.upd 11 (.slice B Q d)) 13 = mm 13 := Made.upd_ne _ (by decide)
  refine ⟨h.bel, by rw [e6]; exact h.i6, fun v e => ?_, fun v e => ?_, fun v e => ?_⟩
  · have e1 : some (Value.slice B Q d) = some v := e
    cases e1
    exact ⟨B, d, rfl, q⟩
  · rw [e12] at e
    obtain ⟨_, u11, _, _, k⟩ := h.i12 v e
    rw [h0] at k; cases k
  · rw [e13] at e
    obtain ⟨_, _, u11, _, _, k, _⟩ := h.i13 v e
    rw [h0] at k; cases k
theorem NoG.set12 (h : NoG w0 wd P Q ns ss mm W) {u6 u11 : Value} (h6 : mm 6 = some u6) (h11 : mm 11 = some u11) : NoG w0 wd P Q ns ss (mm.upd 12 (.agg #[u6, u11])) W := by
  have e6 : (mm.upd 12 (.agg #[u6, u11])) 6 = mm 6 := Made.upd_ne _ (by decide)
  have e11 : (mm.upd 12 (.agg #[u6, u11])) 11 = mm 11 := Made.upd_ne _ (by decide)
  have e13 : (mm.upd 12 (.agg #[u6, u11])) 13 = mm 13 := Made.upd_ne _ (by decide)
  refine ⟨h.bel, by rw [e6]; exact h.i6, by rw [e11]; exact h.i11, fun v e => ?_, by rw [e13, e6, e11]; exact h.i13⟩
  have e1 : some (Value.agg #[u6, u11]) = some v := e
  cases e1
  exact ⟨u6, u11, rfl, by rw [e6]; exact h6, by rw [e11]; exact h11⟩
theorem NoG.set13 (h : NoG w0 wd P Q ns ss mm W) {u6 u11 : Value} (h12 : mm 12 = some (.agg #[u6, u11])) : NoG w0 wd P Q ns ss (mm.upd 13 (.slice (some ⟨W.heap.size, 0, none⟩) 1 1)) (W.alloc (.cells #[u6, u11] 45)) := by
  have f : Below W.heap.size W (W.alloc (.cells #[u6, u11] 45)) := (Below.refl _ _).alloc (Nat.le_refl _) _
  have k := h.keepQ f
  obtain ⟨a, b, e0, h6, h11⟩ := h.i12 _ h12
  cases e0
  refine ⟨k.bel, k.i6, k.i11, k.i12, fun v e => ?_⟩
  have e1 : some (Value.slice (some ⟨W.heap.size, 0, none⟩) 1 1) = some v := e
  cases e1
  exact ⟨_, u6, u11, rfl, h6, h11, Blk.new W _ _⟩

/-- Numbers and scalars are told by calls. -/
theorem NoG.call6 {g hb : Nat} {nd : List Pd} {hs : List Int} {lg : Int} (i0 : IsP w0 g hb nd hs lg) {mb : Nat} {L : List Int} (hm : PtM w0 mb (bls nd) L) (lv : LiveL nd.length L) {xs : List Int} {lb : Nat} (hn : xs.length = P) (few : P ≤ 64) (hin : ∀ x ∈ xs, 0 ≤ x ∧ x ≤ nd.length)
    (hl : Blk w0 lb (ptVs (bls nd) xs).toArray 66) (b0 : Below w0.heap.size w0 wd) (h : NoG w0 wd P Q (xs.map (atL L)) ss mm W) (h0 : mm 6 = none) :
    Calls Try.prog 35 #[.slice (some ⟨lb, 0, none⟩) P P, .map (some mb)] W fun e w' => ∃ u, e = .returned u ∧ (∃ A c, u = .slice A P c) ∧ NoG w0 wd P Q (xs.map (atL L)) ss (mm.upd 6 u) w' := by
  have f := below_trans b0 h.bel
  refine (nums_any (i0.keep f) (hm.keep f) lv hn few hin (hl.keep f)).mono ?_
  rintro e w' ⟨A, c, rfl, q, b, l⟩
  exact ⟨_, rfl, ⟨A, c, rfl⟩, (h.keepQ b).set6 h0 q fun k hk => Nat.le_trans f.size (l k hk)⟩
theorem NoG.call11 {sb : Nat} (hn : ss.length = Q) (few : Q ≤ 64) (hl : Blk w0 sb (wordsU ss).toArray 28) (b0 : Below w0.heap.size w0 wd) (h : NoG w0 wd P Q ns ss mm W) (h0 : mm 11 = none) :
    Calls Try.prog 36 #[.slice (some ⟨sb, 0, none⟩) Q Q] W fun e w' => ∃ u, e = .returned u ∧ (∃ B d, u = .slice B Q d) ∧ NoG w0 wd P Q ns ss (mm.upd 11 u) w' := by
  have f := below_trans b0 h.bel
  refine (clone_u hn few (hl.keep f)).mono ?_
  rintro e w' ⟨B, d, rfl, q, b⟩
  exact ⟨_, rfl, ⟨B, d, rfl⟩, (h.keepQ b).set11 h0 (own_base q f.size)⟩
end

/-- How Nodes ends: nodes and numbers, in memory of their own. -/
def NodesR (w : World) (G : Gr) (e : Ending) (w' : World) : Prop :=
  ∃ w0 v ts A c, e = .returned (.tuple #[v, .slice A G.hs.length c]) ∧ Below w.heap.size w w0 ∧ ShP w0 w' v ts ∧ ts.map Tp.two = G.shown ∧ Qu w' A G.hs.length c G.heldAt ∧ ∀ k, blkOf A = some k → w.heap.size ≤ k

attribute [local go_sem] madeUpon

section
variable {w : World} {g hb : Nat} {nd : List Pd} {G : Gr}

set_option maxHeartbeats 16000000 in
set_option maxRecDepth 100000 in
theorem nodes_any (i0 : IsP w g hb nd G.hs G.lg) (eN : G.ns = nd.map Pd.two) (few : nd.length ≤ 1048576) : Calls Try.prog 15 #[gP g] w (NodesR w G) := by
  have hl : G.ns.length = nd.length := by rw [eN, List.length_map]
  have HM := Lib.hid (met_any i0 eN few)
  have HG := Lib.hid (And.intro i0 (And.intro eN (And.intro hl (And.intro (i0.ok eN) few))))
  have lv : LiveL nd.length G.live := by have := (i0.ok eN).live; rwa [hl] at this
  have HV := Lib.hid lv
  have mf := lv.few
  obtain ⟨c0, _⟩ := i0.two
  have C0 := Lib.hid c0
  have gl := i0.blk.lt
  have hf := i0.hfew
  generalize hK : G.hs.length = K at *
  have HK := Lib.hid hK
  obtain ⟨i1, hi1, hz1, hs1, hb1⟩ := info_parts info_node
  have HI := Lib.hid (And.intro hi1 (And.intro hz1 (And.intro hs1 hb1)))
  clear i0 eN hl lv c0 hK hz1 hs1 hb1 hi1
  obtain ⟨M, hM⟩ : ∃ M, G.live.length = M := ⟨_, rfl⟩
  rw [hM] at mf
  have HL := Lib.hid hM
  clear hM
  unfold gP at *
  go_enter Try.func15, Try.ntmps15
  go_wp2_with fail
  refine HM.out.mono ?_
  rintro e w1 ⟨vO, mb, rfl, b1, ro, hm, ml⟩
  rw [HL.out] at ro
  have R1 := Lib.hid (And.intro b1 (And.intro ro (And.intro hm (And.intro ml (HG.out.1.keep b1)))))
  have hO := own_at ro
  have hv : ∃ A cap, vO = .slice A M cap ∧ cap ≤ maxLen := by
    rcases hO with ⟨e1, e2⟩ | ⟨gq, cap, e1, _, _, _, k, _⟩
    · exact ⟨none, 0, by rw [e1, e2], Nat.zero_le _⟩
    · exact ⟨_, cap, e1, k⟩
  obtain ⟨AO, capO, rfl, cm⟩ := hv
  have HO := Lib.hid hO
  clear hO b1 ro hm ml HM
  go_wp2_with fail
  go_loopw [6, 8, 18] (fun s6 _ s18 wr => ∃ (i : Nat) (ts : List Tp), i ≤ M ∧ s18 = .int .i64 i ∧ ts.length = i ∧ Hid (ShP w1 wr s6 ts ∧ ts.map Tp.two = (G.live.take i).map fun x => ((G.node x).1.map (atL G.live), (G.node x).2))) (fun _ _ s18 _ => M - (intOf s18).toNat)
  case atStart => exact ⟨0, [], Nat.zero_le _, rfl, rfl, Lib.hid ⟨ShP.first w1, rfl⟩⟩
  case round =>
    obtain ⟨i, ts, hi, rfl, ht, HS⟩ := hrel
    by_cases hlt : i < M
    · obtain ⟨x, hx⟩ : ∃ x, G.live[i]? = some x := ⟨_, List.getElem?_eq_getElem (by rw [HL.out]; exact hlt)⟩
      obtain ⟨x1, x2⟩ := HV.out.in_ x (List.mem_of_getElem? hx)
      obtain ⟨k, y, rfl, hy, ey, ek⟩ := nodeP_at HG.out.2.1 (x := x) (by omega) x2
      have mem := List.mem_of_getElem? hy
      rcases HO.out with ⟨_, e⟩ | ⟨gq, cap, e1, glow, gql, n1, n2, hat⟩
      · omega
      · cases e1
        have d1 : wr.cell? ⟨gq, i, none⟩ = some (.pointer (some ⟨y.nb, 0, none⟩)) := by
          refine (HS.out.1.bel.cell (p := ⟨gq, i, none⟩) gql).trans ?_
          rw [hat i (ptV (bls nd) ((k + 1 : Nat) : Int)) (by simp [ptVs, hx]), ptV_at hy]
        have kb := (R1.out.2.2.2.2.box y mem).keep HS.out.1.bel
        have d2 : wr.drew.cell? ⟨y.nb, 0, none⟩ = some _ := kb.cell 0
        have d3 : wr.drew.cell? ⟨y.nb, 1, none⟩ = some _ := kb.cell 1
        have lb := kb.lt
        have hz := HG.out.1.size y mem
        have TK := Lib.hid (show (G.live.take (i + 1)).map (fun x => ((G.node x).1.map (atL G.live), (G.node x).2)) = (G.live.take i).map (fun x => ((G.node x).1.map (atL G.live), (G.node x).2)) ++ [(y.ps.map (atL G.live), y.ss)] from by
          rw [List.take_add_one, hx, Option.toList_some, List.map_append, List.map_singleton, ey])
        have HY := Lib.hid (And.intro (R1.out.2.2.2.2.ptr y mem) (And.intro (R1.out.2.2.2.2.sca y mem) (HG.out.1.pin y mem)))
        obtain ⟨PP, hP⟩ : ∃ P, y.ps.length = P := ⟨_, rfl⟩
        obtain ⟨QQ, hQ⟩ : ∃ Q, y.ss.length = Q := ⟨_, rfl⟩
        have C6 := Lib.hid (fun (mm : Made) (W : World) (h : NoG w1 wr.drew PP QQ (y.ps.map (atL G.live)) y.ss mm W) (h0 : mm 6 = none) => NoG.call6 R1.out.2.2.2.2 R1.out.2.2.1 HV.out hP (by omega) HY.out.2.2 HY.out.1 (below_trans HS.out.1.bel (below_drew _)) h h0)
        have C11 := Lib.hid (fun (mm : Made) (W : World) (h : NoG w1 wr.drew PP QQ (y.ps.map (atL G.live)) y.ss mm W) (h0 : mm 11 = none) => NoG.call11 hQ (by omega) HY.out.2.1 (below_trans HS.out.1.bel (below_drew _)) h h0)
        have GG := Lib.hid (NoG.start w1 wr.drew PP QQ (y.ps.map (atL G.live)) y.ss)
        unfold pdB at d2 d3
        rw [hP, hQ] at d2 d3
        rw [hP, hQ] at hz
        have HPQ := Lib.hid (And.intro hP hQ)
        clear hx hat kb mem hy ey ek x1 x2 hP hQ HY glow
        generalize y.nb = nb at *
        generalize y.pb = pb at *
        generalize y.sb = sb at *
        go_upto_region 8 with (fail)
        refine region_made_tailR (NoG w1 wr.drew PP QQ (y.ps.map (atL G.live)) y.ss) (NoV u6 nb mb pb sb PP QQ) 14 (by kernel_rfl) (by kernel_rfl) (by kernel_rfl) (noV_some _ _ _ _ _ _ _) GG.out ?_
        simp only [List.take_succ_cons, List.take_zero, List.drop_succ_cons, List.drop_zero]
        refine wpMadeR_step ?_ ?_
        · intro m' w' hg hag
          go_simp
          exact ⟨rfl, hg.pure _ _ (by decide)⟩
        intro K hK
        rintro u6 rfl
        go_simp
        refine hK _ _ ?_
        clear hK K
        refine wpMadeR_step ?_ ?_
        · intro m' w' hg hag
          go_simp
          exact ⟨rfl, hg.pure _ _ (by decide)⟩
        intro K hK
        rintro _ rfl
        go_simp
        refine hK _ _ ?_
        clear hK K
        refine wpMadeR_step ?_ ?_
        · intro m' w' hg hag
          go_simp
          exact ⟨rfl, hg.pure _ _ (by decide)⟩
        intro K hK
        rintro _ rfl
        go_simp
        refine hK _ _ ?_
        clear hK K
        refine wpMadeR_step ?_ ?_
        · intro m' w' hg hag
          go_simp
          exact ⟨rfl, hg.pure _ _ (by decide)⟩
        intro K hK
        rintro _ rfl
        go_simp
        refine hK _ _ ?_
        clear hK K
        refine wpMadeR_step ?_ ?_
        · intro m' w' hg hag
          have q1 := hg.cell d2
          go_simp
          exact ⟨rfl, hg.pure _ _ (by decide)⟩
        intro K hK
        rintro _ rfl
        go_simp
        refine hK _ _ ?_
        clear hK K
        refine wpMadeR_step ?_ ?_
        · intro m' w' hg hag
          go_simp
          exact ⟨rfl, hg.pure _ _ (by decide)⟩
        intro K hK
        rintro _ rfl
        go_simp
        refine hK _ _ ?_
        clear hK K
        refine wpMadeR_step ?_ ?_
        · intro m' w' hg hag
          have h0 : m' 6 = none := hag 6 (.inl rfl)
          have q1 := C6.out m' w' hg h0
          go_simp
          exact q1
        intro K hK
        rintro _ ⟨A6, c6, rfl⟩
        go_simp
        refine hK _ _ ?_
        clear hK K
        refine wpMadeR_step ?_ ?_
        · intro m' w' hg hag
          go_simp
          exact ⟨rfl, hg.pure _ _ (by decide)⟩
        intro K hK
        rintro _ rfl
        go_simp
        refine hK _ _ ?_
        clear hK K
        refine wpMadeR_step ?_ ?_
        · intro m' w' hg hag
          go_simp
          exact ⟨rfl, hg.pure _ _ (by decide)⟩
        intro K hK
        rintro _ rfl
        go_simp
        refine hK _ _ ?_
        clear hK K
        refine wpMadeR_step ?_ ?_
        · intro m' w' hg hag
          go_simp
          exact ⟨rfl, hg.pure _ _ (by decide)⟩
        intro K hK
        rintro _ rfl
        go_simp
        refine hK _ _ ?_
        clear hK K
        refine wpMadeR_step ?_ ?_
        · intro m' w' hg hag
          have q1 := hg.cell d3
          go_simp
          exact ⟨rfl, hg.pure _ _ (by decide)⟩
        intro K hK
        rintro _ rfl
        go_simp
        refine hK _ _ ?_
        clear hK K
        refine wpMadeR_step ?_ ?_
        · intro m' w' hg hag
          have h0 : m' 11 = none := hag 11 (.inl rfl)
          have q1 := C11.out m' w' hg h0
          go_simp
          exact q1
        intro K hK
        rintro _ ⟨B11, d11, rfl⟩
        go_simp
        refine hK _ _ ?_
        clear hK K
        refine wpMadeR_step ?_ ?_
        · intro m' w' hg hag
          have h6 : m' 6 = some (.slice A6 PP c6) := hag 6 (.inr ⟨{ on := 6, ground := .data }, by simp, by rfl, rfl⟩)
          have h11 : m' 11 = some (.slice B11 QQ d11) := hag 11 (.inr ⟨{ on := 11, ground := .data }, by simp, by rfl, rfl⟩)
          go_simp
          exact ⟨⟨A6, c6, B11, d11, rfl⟩, hg.set12 h6 h11⟩
        intro K hK
        rintro _ ⟨A12, c12, B12, d12, rfl⟩
        go_simp
        refine hK _ _ ?_
        clear hK K
        refine wpMadeR_step ?_ ?_
        · intro m' w' hg hag
          have h12 : m' 12 = some (.agg #[.slice A12 PP c12, .slice B12 QQ d12]) := hag 12 (.inr ⟨{ on := 12, ground := .data }, by simp, by rfl, rfl⟩)
          go_simp
          exact ⟨⟨_, rfl⟩, hg.set13 h12⟩
        intro K hK
        rintro _ ⟨q13, rfl⟩
        go_simp
        refine hK _ _ ?_
        clear hK K
        refine wpMadeR_nil ?_
        intro w3 hg
        have NW : Hid (∃ t : Tp, t.two = (y.ps.map (atL G.live), y.ss) ∧ Below wr.heap.size wr w3 ∧ (∀ j u, [Value.slice t.A t.ps.length t.c, t.sv][j]? = some u → w3.cell? ((⟨q13, 0, none⟩ : Addr).add j) = some u) ∧ (∀ u ∈ [Value.slice t.A t.ps.length t.c, t.sv], u.oneCell' = true) ∧
            Qu w3 t.A t.ps.length t.c t.ps ∧ (∀ k, blkOf t.A = some k → w1.heap.size ≤ k) ∧ w3.ownsRow w1.heap.size 28 1 t.sv t.ss.length (wordsU t.ss)) := Lib.hid (by
          obtain ⟨q, u6, u11, e1, e6, e11, hb⟩ := hg.i13 _ rfl
          cases e1
          obtain ⟨A, c, rfl, hq, lo⟩ := hg.i6 _ e6
          obtain ⟨B, d, rfl, hr⟩ := hg.i11 _ e11
          have lp : (y.ps.map (atL G.live)).length = PP := by rw [List.length_map, HPQ.out.1]
          refine ⟨⟨A, c, y.ps.map (atL G.live), .slice B QQ d, y.ss⟩, rfl, below_trans (below_drew _) hg.bel, ?_, ?_, ?_, lo, ?_⟩
          · intro j u hj
            dsimp only at hj
            rw [lp] at hj
            rw [Addr.add_lit, Nat.zero_add, hb.cell]
            simpa using hj
          · intro u hu
            simp only [List.mem_cons, List.not_mem_nil, or_false] at hu
            rcases hu with rfl | rfl <;> rfl
          · dsimp only
            rw [lp]; exact hq
          · dsimp only
            rw [HPQ.out.2]; exact hr)
        obtain ⟨t, NT⟩ := NW.out
        have NT := Lib.hid NT
        have RW := Lib.hid (show w3.ownsRow w1.heap.size 45 2 u6 i (tpV ts) ∧ w1.heap.size ≤ w3.heap.size from by
          have := (HS.out.1.keep NT.out.2.1)
          exact ⟨by rw [← ht]; exact this.row, this.bel.size⟩)
        clear hg GG d1 d2 d3 C6 C11 NW
        go_wp2_with (first
            | (at_builtin; refine wpList_append_own_at _ rfl _ _ 35 rfl w1.heap.size 45 i1 (.agg #[.slice none 0 0, .slice none 0 0]) 2 48 Try.underlying35 HI.out.1 HI.out.2.1 HI.out.2.2.1 HI.out.2.2.2 rfl (by decide) _ _ _ rfl RW.out.1 ⟨q13, 0, none⟩ 1 1 [.slice t.A t.ps.length t.c, t.sv] rfl rfl NT.out.2.2.1 NT.out.2.2.2.1 ?c3 ?c4 RW.out.2 ?_)
            | fail)
        case c3 => unfold maxLen; omega
        case c4 => omega
        intro v' w4 ro gr _ _
        have HN2 := Lib.hid (show ShP w1 w4 v' (ts ++ [t]) ∧ (ts ++ [t]).map Tp.two = (G.live.take (i + 1)).map fun x => ((G.node x).1.map (atL G.live), (G.node x).2) from ⟨(HS.out.1.keep NT.out.2.1).add t NT.out.2.2.2.2.1 NT.out.2.2.2.2.2.1 NT.out.2.2.2.2.2.2 (by rw [ht]; exact ro) gr, by
          rw [TK.out, List.map_append, HS.out.2, List.map_singleton, NT.out.1]⟩)
        clear ro gr HS TK NT RW
        go_wp2
        go_roundw
        case rel => exact ⟨i + 1, _, by omega, by go_num, by rw [List.length_append, List.length_singleton, ht], HN2⟩
        case measure => simp [intOf]; omega
    · obtain rfl : i = M := by omega
      have SH := Lib.hid (show ShP w1 wr u6 ts ∧ ts.map Tp.two = G.shown from ⟨HS.out.1, by
        have e : G.live.take i = G.live := List.take_of_length_le (by rw [HL.out]; exact Nat.le_refl _)
        rw [HS.out.2, e]
        rfl⟩)
      have NB := Lib.hid (nums_any (R1.out.2.2.2.2.keep HS.out.1.bel) (R1.out.2.2.1.keep HS.out.1.bel) HV.out HK.out hf (fun x hx => by have := HG.out.2.2.2.1.hs x hx; rw [HG.out.2.2.1] at this; exact this) (R1.out.2.2.2.2.keep HS.out.1.bel).hrow)
      have c9 : wr.cell? ⟨g, 0, none⟩ = some (.slice (some ⟨hb, 0, none⟩) K K) := ((below_trans R1.out.1 HS.out.1.bel).cell (p := ⟨g, 0, none⟩) gl).trans C0.out
      clear HS HO
      go_wp2_with fail
      refine NB.out.mono ?_
      rintro e w5 ⟨A, c, rfl, q, b, lo⟩
      have RE := Lib.hid (show NodesR w G (.returned (.tuple #[u6, .slice A K c])) w5 from by
        refine ⟨w1, u6, ts, A, c, by rw [HK.out], R1.out.1, SH.out.1.keep b, SH.out.2, ?_, fun k hk => Nat.le_trans R1.out.1.size (Nat.le_trans SH.out.1.bel.size (lo k hk))⟩
        rw [HK.out]
        exact q)
      clear q b lo NB SH c9
      go_wp2
      go_ret2
      exact RE.out
end
end Go.Proofs.Ytjjjeeffllelaaa
