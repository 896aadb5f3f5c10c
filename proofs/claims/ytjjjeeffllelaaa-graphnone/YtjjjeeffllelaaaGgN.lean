/- The program's graph: what is told, by what its cells hold; a graph made since; awake. -/
import Derived.Test.YtjjjeeffllelaaaGgM
import Derived.Test.YtjjjeeffllelaaaRhF
import Derived.Test.YtjjjeeffllelaaaRhG
import Derived.Test.YtjjjeeffllelaaaKpQ
namespace Go.Proofs.Ytjjjeeffllelaaa
open Go.RowKit Go.Maps

/-- What nodes and rows there may be. -/
def Gr.Sz (G : Gr) : Prop := ∀ n ∈ G.ns, n.1.length ≤ 64 ∧ n.2.length ≤ 64
theorem Pg.sz {w : World} {g : Nat} {S : Nat → Prop} {G : Gr} (r : Pg w g S G) : G.Sz := by
  obtain ⟨hb, nd, hi, e, _⟩ := r
  intro n hn
  rw [e] at hn
  obtain ⟨y, hy, rfl⟩ := List.mem_map.1 hn
  exact hi.size y hy
theorem Gr.Sz.node {G : Gr} (h : G.Sz) (x : Int) : (G.node x).1.length ≤ 64 ∧ (G.node x).2.length ≤ 64 := by
  unfold Gr.node
  rw [List.getD_eq_getElem?_getD]
  cases e : G.ns[x.toNat - 1]? with
  | none => exact ⟨Nat.zero_le _, Nat.zero_le _⟩
  | some n => exact h n (List.mem_of_getElem? e)
theorem Gr.Sz.shown {G : Gr} (h : G.Sz) : ∀ y ∈ G.shown, y.1.length ≤ 64 ∧ y.2.length ≤ 64 := by
  intro y hy
  unfold Gr.shown at hy
  obtain ⟨x, _, rfl⟩ := List.mem_map.1 hy
  have := h.node x
  exact ⟨by rw [List.length_map]; exact this.1, this.2⟩

/-- Numbers, and nodes, that are told in memory from block B on. -/
def RdL (k : IntKind) (B : Nat) (w : World) (A : Option Addr) (xs : List Int) : Prop := ∀ i x, xs[i]? = some x → ∃ g off, A = some ⟨g, off, none⟩ ∧ B ≤ g ∧ g < w.heap.size ∧ w.cell? ⟨g, off + i, none⟩ = some (.int k x)
def NdL (B : Nat) (w : World) (A : Option Addr) (ns : List Two) : Prop := ∀ i y, ns[i]? = some y → ∃ g off A1 c1 A2 c2, A = some ⟨g, off, none⟩ ∧ B ≤ g ∧ g < w.heap.size ∧ w.cell? ⟨g, off + i * 2, none⟩ = some (.slice A1 y.1.length c1) ∧ w.cell? ⟨g, off + i * 2 + 1, none⟩ = some (.slice A2 y.2.length c2) ∧
  RdL .i64 B w A1 y.1 ∧ RdL .u64 B w A2 y.2 ∧ y.1.length ≤ 64 ∧ y.2.length ≤ 64

theorem frm_cell {S : Nat → Prop} {w w' : World} (f : Frm S w w') {a : Addr} (lt : a.block < w.heap.size) (hs : ¬ S a.block) : w'.cell? a = w.cell? a := by
  unfold World.cell?
  rw [f.block a.block lt hs]
section
variable {k : IntKind} {B : Nat} {w w' : World} {A : Option Addr} {xs : List Int} {ns : List Two} {S : Nat → Prop}
theorem RdL.frm (h : RdL k B w A xs) (f : Frm S w w') (hs : ∀ j, B ≤ j → ¬ S j) : RdL k B w' A xs := fun i x hx => by
  obtain ⟨g, off, e, b, l, c⟩ := h i x hx
  exact ⟨g, off, e, b, Nat.lt_of_lt_of_le l f.size, (frm_cell f l (hs g b)).trans c⟩
theorem NdL.frm (h : NdL B w A ns) (f : Frm S w w') (hs : ∀ j, B ≤ j → ¬ S j) : NdL B w' A ns := fun i y hy => by
  obtain ⟨g, off, A1, c1, A2, c2, e, b, l, d1, d2, r1, r2, l1, l2⟩ := h i y hy
  exact ⟨g, off, A1, c1, A2, c2, e, b, Nat.lt_of_lt_of_le l f.size, (frm_cell f l (hs g b)).trans d1, (frm_cell f l (hs g b)).trans d2, r1.frm f hs, r2.frm f hs, l1, l2⟩
theorem RdL.rd (h : RdL k B w A xs) : RdI k w A xs := fun i x hx => by
  obtain ⟨g, off, e, _, _, c⟩ := h i x hx
  exact ⟨g, off, e, c⟩
theorem NdL.nd (h : NdL B w A ns) : NdR w A ns := fun i y hy => by
  obtain ⟨g, off, A1, c1, A2, c2, e, _, _, d1, d2, r1, r2, l1, l2⟩ := h i y hy
  exact ⟨g, off, A1, c1, A2, c2, e, d1, d2, r1.rd, r2.rd, by omega, by omega⟩
theorem Qu.rdl {n c : Nat} (h : Qu w A n c xs) (hb : ∀ k, blkOf A = some k → B ≤ k) : RdL .i64 B w A xs := fun i x hx => by
  have hi := (List.getElem?_eq_some_iff.1 hx).1
  obtain ⟨g, off, rfl, lt, hc, _⟩ := h.at_ (by rw [← h.len]; omega)
  exact ⟨g, off, rfl, hb g rfl, lt, hc i x hx⟩
end

/-- A row that is held, cell by cell. -/
theorem own_cells {w : World} {B k : Nat} {e : TypeId} {v : Value} {n : Nat} {xs : List Value} (h : w.ownsRow B e k v n xs) :
    ∃ A cap, v = .slice A n cap ∧ ∀ i x, xs[i]? = some x → ∃ gq, A = some ⟨gq, 0, none⟩ ∧ B ≤ gq ∧ gq < w.heap.size ∧ w.cell? ⟨gq, i, none⟩ = some x := by
  obtain ⟨hl, hv⟩ := h
  rcases hv with ⟨e1, e2⟩ | ⟨gq, cap, cur, e1, hB, hg, hnc, hm, hs, ht⟩
  · subst e2
    refine ⟨none, 0, e1, fun i x hx => ?_⟩
    have := (List.getElem?_eq_some_iff.1 hx).1
    rw [hl, Nat.zero_mul] at this
    omega
  · have hk : Blk w gq cur e := hg
    refine ⟨_, cap, e1, fun i x hx => ⟨gq, rfl, hB, hk.lt, ?_⟩⟩
    have hi : i < n * k := by have := (List.getElem?_eq_some_iff.1 hx).1; omega
    rw [hk.cell]
    rw [← ht, List.getElem?_take_of_lt hi, Array.getElem?_toList] at hx
    exact hx

theorem tpV_at {ts : List Tp} {i j : Nat} {t : Tp} (h : ts[i]? = some t) (hj : j < 2) : (tpV ts)[i * 2 + j]? = t.vs[j]? := by
  induction ts generalizing i with
  | nil => simp at h
  | cons s ts ih =>
    unfold tpV at ih ⊢
    rw [List.flatMap_cons]
    cases i with
    | zero =>
      simp at h
      subst h
      rw [Nat.zero_mul, Nat.zero_add]
      exact List.getElem?_append_left (by simpa [Tp.vs] using hj)
    | succ i =>
      simp at h
      rw [List.getElem?_append_right (by simp [Tp.vs]; omega), ← ih h]
      congr 1
      simp [Tp.vs]; omega
theorem tnV_at {ts : List Tn} {i j : Nat} {t : Tn} (h : ts[i]? = some t) (hj : j < 2) : (tnV ts)[i * 2 + j]? = t.vs[j]? := by
  induction ts generalizing i with
  | nil => simp at h
  | cons s ts ih =>
    unfold tnV at ih ⊢
    rw [List.flatMap_cons]
    cases i with
    | zero =>
      simp at h
      subst h
      rw [Nat.zero_mul, Nat.zero_add]
      exact List.getElem?_append_left (by simpa [Tn.vs] using hj)
    | succ i =>
      simp at h
      rw [List.getElem?_append_right (by simp [Tn.vs]; omega), ← ih h]
      congr 1
      simp [Tn.vs]; omega

/-- What Nodes told, in memory from block B on. -/
structure ToldP (B : Nat) (w : World) (Aa Ax : Option Addr) (G : Gr) : Prop where
  nd : NdL B w Aa G.shown
  rd : RdL .i64 B w Ax G.heldAt

theorem ToldP.frm {B : Nat} {w w' : World} {Aa Ax : Option Addr} {G : Gr} {S : Nat → Prop} (h : ToldP B w Aa Ax G) (f : Frm S w w') (hs : ∀ j, B ≤ j → ¬ S j) : ToldP B w' Aa Ax G := ⟨h.nd.frm f hs, h.rd.frm f hs⟩
theorem ToldP.keep {B : Nat} {w w' : World} {Aa Ax : Option Addr} {G : Gr} (h : ToldP B w Aa Ax G) (f : Below w.heap.size w w') : ToldP B w' Aa Ax G := h.frm (S := fun _ => False) (Frm.of_below f) fun _ _ e => e

def TellP (w : World) (G : Gr) (e : Ending) (w' : World) : Prop :=
  ∃ Aa ca Ax cx, e = .returned (.tuple #[.slice Aa G.live.length ca, .slice Ax G.hs.length cx]) ∧ Below w.heap.size w w' ∧ ToldP w.heap.size w' Aa Ax G

theorem pgTell {w : World} {g : Nat} {S : Nat → Prop} {G : Gr} (r : Pg w g S G) (few : G.ns.length ≤ 1048576) : Calls Try.prog 15 #[gP g] w (TellP w G) := by
  refine (pgNodes r few).mono ?_
  rintro e w' ⟨w0, v, ts, A, c, rfl, b0, sh, ets, q, lo⟩
  obtain ⟨Aa, ca, rfl, hc⟩ := own_cells sh.row
  have hl : ts.length = G.live.length := by
    have := congrArg List.length ets
    rw [List.length_map] at this
    rw [this, Gr.shown, List.length_map]
  refine ⟨Aa, ca, A, c, by rw [hl], below_trans b0 sh.bel, ⟨fun i y hy => ?_, q.rdl lo⟩⟩
  have sz := r.sz.shown y (List.mem_of_getElem? hy)
  rw [← ets, List.getElem?_map] at hy
  obtain ⟨t, ht, rfl⟩ := Option.map_eq_some_iff.1 hy
  have mem := List.mem_of_getElem? ht
  obtain ⟨gq, e1, hB, hlt, d1⟩ := hc (i * 2 + 0) _ ((tpV_at ht (by decide)).trans rfl)
  obtain ⟨gq', e2, _, _, d2⟩ := hc (i * 2 + 1) _ ((tpV_at ht (by decide)).trans rfl)
  rw [e1] at e2
  cases e2
  obtain ⟨A2, c2, es, h2⟩ := own_cells (sh.ss t mem)
  rw [es] at d2
  obtain ⟨hq, hlo⟩ := sh.ps t mem
  refine ⟨gq, 0, t.A, t.c, A2, c2, e1, Nat.le_trans b0.size hB, hlt, by rw [Nat.zero_add]; exact d1, by rw [Nat.zero_add]; exact d2, hq.rdl fun k hk => Nat.le_trans b0.size (hlo k hk), fun j x hx => ?_, sz.1, sz.2⟩
  have hx : t.ss[j]? = some x := hx
  obtain ⟨g2, e3, hB2, hl2, d3⟩ := h2 j (.int .u64 x) (by simp [wordsU, hx])
  exact ⟨g2, 0, e3, Nat.le_trans b0.size hB2, hl2, by rw [Nat.zero_add]; exact d3⟩

/-- Two that are told as one: Same says so. -/
theorem same_tell {w : World} {B B' : Nat} {Aa Ax Ab Ay : Option Addr} {G : Gr} {ca cx cb cy : Nat} (h : ToldP B w Aa Ax G) (k : ToldP B' w Ab Ay G) (fa : G.live.length ≤ 1073741824) (fx : G.hs.length ≤ 1073741824) :
    Calls Try.prog 18 #[.slice Aa G.live.length ca, .slice Ax G.hs.length cx, .slice Ab G.live.length cb, .slice Ay G.hs.length cy] w fun e w' => e = .returned (.bool true) ∧ Below w.heap.size w w' := by
  have l1 : G.shown.length = G.live.length := by rw [Gr.shown, List.length_map]
  have l2 : G.heldAt.length = G.hs.length := by rw [Gr.heldAt, List.length_map]
  have := same_told (ca := ca) (cx := cx) (cb := cb) (cy := cy) h.nd.nd h.rd.rd k.nd.nd k.rd.rd (by rw [l1]; exact fa) (by rw [l2]; exact fx)
  rw [l1, l2] at this
  refine this.mono ?_
  rintro e w' ⟨he, hb⟩
  exact ⟨by rw [he, decide_eq_true ⟨rfl, rfl⟩], hb⟩

/-- A graph that was made since w0, the caller's blocks Z beside it. -/
def Gw (w0 w : World) (Z : Nat → Prop) (g : Nat) (G : Gr) : Prop := ∃ S, Pg w g S G ∧ Below w0.heap.size w0 w ∧ (∀ k, S k → w0.heap.size ≤ k) ∧ ∀ k, Z k → k < w.heap.size ∧ ¬ S k

section
variable {w0 w w' : World} {Z Z' : Nat → Prop} {g : Nat} {G : Gr}
theorem Gw.keep (h : Gw w0 w Z g G) (f : Below w.heap.size w w') : Gw w0 w' Z g G := by
  obtain ⟨S, r, b, l, z⟩ := h
  exact ⟨S, r.keep f, below_trans b f, l, fun k hk => ⟨Nat.lt_of_lt_of_le (z k hk).1 f.size, (z k hk).2⟩⟩
theorem Gw.grow (h : Gw w0 w Z g G) (f : Below w.heap.size w w') (hz : ∀ k, Z' k → Z k ∨ (w.heap.size ≤ k ∧ k < w'.heap.size)) : Gw w0 w' Z' g G := by
  obtain ⟨S, r, b, l, z⟩ := h
  refine ⟨S, r.keep f, below_trans b f, l, fun k hk => ?_⟩
  rcases hz k hk with h1 | ⟨h1, h2⟩
  · exact ⟨Nat.lt_of_lt_of_le (z k h1).1 f.size, (z k h1).2⟩
  · exact ⟨h2, fun e => by have := r.lt e; omega⟩
theorem Gw.bel (h : Gw w0 w Z g G) : Below w0.heap.size w0 w := by obtain ⟨S, r, b, l⟩ := h; exact b
theorem gw_new (b : Below w0.heap.size w0 w) (hz : ∀ k, Z k → w0.heap.size ≤ k ∧ k < w.heap.size) (hn l : Int) : Calls Try.prog 9 #[.int .i64 hn, .int .i64 l] w fun e w' => ∃ g, e = .returned (gP g) ∧ Gw w0 w' Z g (Gr.new hn l) ∧ Below w.heap.size w w' := by
  refine (pgNew hn l w).mono ?_
  rintro e w' ⟨g, rfl, S, r, bb, lo⟩
  exact ⟨g, rfl, ⟨S, r, below_trans b bb, fun k hk => Nat.le_trans b.size (lo k hk), fun k hk => ⟨Nat.lt_of_lt_of_le (hz k hk).2 bb.size, fun e => by have := lo k e; have := (hz k hk).2; omega⟩⟩, bb⟩
theorem Gw.doG (h : Gw w0 w Z g G) (k a b c v : Int) (hc0 : -9223372036854775808 ≤ c) (hc1 : c ≤ 9223372036854775807) :
    Calls Try.prog 11 #[gP g, sgV k a b c v] w fun e w' => e = .returned (anV (G.ans k a b c v).1 (G.ans k a b c v).2.1 (G.ans k a b c v).2.2.1 (G.ans k a b c v).2.2.2) ∧ Gw w0 w' Z g (G.nxt k a b c v) ∧ Kp Z w w' := by
  obtain ⟨S, r, bb, l, z⟩ := h
  refine (pgDo r hc0 hc1).mono ?_
  rintro e w' ⟨he, S', r', mv⟩
  exact ⟨he, ⟨S', r', Below.frm bb mv.frm bb.size fun j hj e => by have := l j e; omega, fun j hj => (mv.at_ j hj).elim (l j) fun e => Nat.le_trans bb.size e,
    fun j hj => ⟨Nat.lt_of_lt_of_le (z j hj).1 mv.frm.size, fun e => (mv.at_ j e).elim (z j hj).2 fun e => by have := (z j hj).1; omega⟩⟩, mv.frm.mono fun j _ e hz => (z j hz).2 e⟩
theorem Gw.tell (h : Gw w0 w Z g G) (few : G.ns.length ≤ 1048576) : Calls Try.prog 15 #[gP g] w fun e w' => TellP w G e w' ∧ Gw w0 w' Z g G := by
  obtain ⟨S, r, bb, l⟩ := id h
  refine (pgTell r few).mono fun e w' ht => ⟨ht, ?_⟩
  obtain ⟨_, _, _, _, _, f, _⟩ := ht
  exact h.keep f
theorem Gw.words (h : Gw w0 w Z g G) (few : G.ns.length ≤ 1048576) : Calls Try.prog 13 #[gP g] w fun e w' => e = .returned (.int .i64 G.words) ∧ Below w.heap.size w w' := by
  obtain ⟨S, r, bb, l⟩ := h
  exact pgWords r few
/-- What was told ahead of an entry is told behind it. -/
theorem Gw.doT (h : Gw w0 w Z g G) {G' : Gr} {W : World} {Aa Ax : Option Addr} (T : ToldP w.heap.size W Aa Ax G') (f : Below w.heap.size w W) (k a b c v : Int) (hc0 : -9223372036854775808 ≤ c) (hc1 : c ≤ 9223372036854775807) :
    Calls Try.prog 11 #[gP g, sgV k a b c v] W fun e w' => e = .returned (anV (G.ans k a b c v).1 (G.ans k a b c v).2.1 (G.ans k a b c v).2.2.1 (G.ans k a b c v).2.2.2) ∧ Gw w0 w' Z g (G.nxt k a b c v) ∧ Kp Z W w' ∧ ToldP w.heap.size w' Aa Ax G' := by
  obtain ⟨S, r, bb, l, z⟩ := id h
  obtain ⟨S2, r2, bb2, l2, z2⟩ := h.keep f
  have rS := r.keep f
  refine (pgDo rS hc0 hc1).mono ?_
  rintro e w' ⟨he, S', r', mv⟩
  have bW := below_trans bb f
  exact ⟨he, ⟨S', r', Below.frm bW mv.frm bW.size fun j hj e => by have := l j e; omega, fun j hj => (mv.at_ j hj).elim (l j) fun e => Nat.le_trans bW.size e,
    fun j hj => ⟨Nat.lt_of_lt_of_le (z j hj).1 (Nat.le_trans f.size mv.frm.size), fun e => (mv.at_ j e).elim (z j hj).2 fun e => by have := (z j hj).1; have := f.size; omega⟩⟩, mv.frm.mono fun j _ e hz => (z j hz).2 e,
    T.frm mv.frm fun j hj e => by have := r.lt e; omega⟩
end
end Go.Proofs.Ytjjjeeffllelaaa
