
/- The document's graph (nodes by their numbers, none of which ever goes) as it lies in memory; what it comes to, as a function of lists. -/
import Derived.Test.YtjjjeeffllelaaaQuB
import Derived.Test.YtjjjeeffllelaaaMvN
import Derived.Laws.AppendOwn
import Derived.Maps.AppendAt
import Derived.Deep.AppendLies
import Derived.Deep.QuietTactic
import Derived.BigQuiet
import Derived.BigRegion
import Derived.IntWalk
namespace Go.Proofs.Ytjjjeeffllelaaa
open Go.RowKit

/-- A graph: its nodes, from 1 on (what each refers to, and its scalars), what handles hold, and how many fields there may be. -/
structure Gr where
  ns : List (List Int × List Int)
  hs : List Int
  lg : Int

def Gr.has (G : Gr) (h : Int) : Bool := decide (0 ≤ h) && decide (h < G.hs.length)
def Gr.held (G : Gr) (h : Int) : Int := G.hs.getD h.toNat 0
def Gr.wrong (G : Gr) (h : Int) : Int := if G.has h = true then (if G.held h = 0 then 4 else 0) else 3
def Gr.node (G : Gr) (i : Int) : List Int × List Int := G.ns.getD (i.toNat - 1) ([], [])
def Gr.setNode (G : Gr) (i : Int) (x : List Int × List Int) : Gr := { G with ns := G.ns.set (i.toNat - 1) x }
def Gr.hold (G : Gr) (h x : Int) : Gr := { G with hs := G.hs.set h.toNat x }

/-- An entry that changes something: its error, and what it comes to. -/
def Gr.change (G : Gr) (k a b c v : Int) : Int × Gr :=
  if k = 1 then
    if G.has a = true then
      if b < 0 ∨ c < 0 ∨ G.lg < b ∨ G.lg - b < c then (6, G)
      else (0, { G with ns := G.ns ++ [(List.replicate b.toNat 0, List.replicate c.toNat 0)], hs := G.hs.set a.toNat (G.ns.length + 1) })
    else (3, G)
  else if k = 2 then
    if G.wrong b = 0 then
      if G.has a = true then
        if 0 ≤ c ∧ c < (G.node (G.held b)).1.length then (0, G.hold a ((G.node (G.held b)).1.getD c.toNat 0)) else (5, G)
      else (3, G)
    else (G.wrong b, G)
  else if k = 3 then
    if G.wrong a = 0 then
      if G.has c = true then
        if 0 ≤ b ∧ b < (G.node (G.held a)).1.length then (0, G.setNode (G.held a) ((G.node (G.held a)).1.set b.toNat (G.held c), (G.node (G.held a)).2)) else (5, G)
      else (3, G)
    else (G.wrong a, G)
  else if k = 5 then
    if G.wrong a = 0 then
      if 0 ≤ b ∧ b < (G.node (G.held a)).2.length then (0, G.setNode (G.held a) ((G.node (G.held a)).1, (G.node (G.held a)).2.set b.toNat v)) else (5, G)
    else (G.wrong a, G)
  else if k = 6 then
    if G.has a = true then (0, G.hold a 0) else (3, G)
  else if k = 7 then
    if G.has a = true ∧ G.has b = true then (0, G.hold a (G.held b)) else (3, G)
  else (0, G)

/-- A node in memory: what it refers to lies in block pb, its scalars in block sb. -/
structure Nd where
  ps : List Int
  ss : List Int
  pb : Nat
  sb : Nat

def Nd.vs (x : Nd) : List Value := [.slice (some ⟨x.pb, 0, none⟩) x.ps.length x.ps.length, .slice (some ⟨x.sb, 0, none⟩) x.ss.length x.ss.length]
def Nd.two (x : Nd) : List Int × List Int := (x.ps, x.ss)

/-- The nodes' cells, that of number 0 ahead. -/
def ndV (nd : List Nd) : List Value := [.slice none 0 0, .slice none 0 0] ++ nd.flatMap Nd.vs

def wordsU (ys : List Int) : List Value := ys.map (Value.int .u64)

theorem flatNd_length (nd : List Nd) : (nd.flatMap Nd.vs).length = nd.length * 2 := by
  induction nd with
  | nil => rfl
  | cons x nd ih => rw [List.flatMap_cons, List.length_append, ih, List.length_cons]; simp [Nd.vs]; omega

theorem flatNd_at (nd : List Nd) (i j : Nat) (x : Nd) (h : nd[i]? = some x) (hj : j < 2) : (nd.flatMap Nd.vs)[i * 2 + j]? = x.vs[j]? := by
  induction nd generalizing i with
  | nil => simp at h
  | cons y nd ih =>
    rw [List.flatMap_cons]
    cases i with
    | zero =>
      simp at h
      subst h
      rw [Nat.zero_mul, Nat.zero_add]
      exact List.getElem?_append_left (by simpa [Nd.vs] using hj)
    | succ i =>
      simp at h
      rw [List.getElem?_append_right (by simp [Nd.vs]; omega), ← ih i h]
      congr 1
      simp [Nd.vs]; omega

theorem ndV_length (nd : List Nd) : (ndV nd).length = (nd.length + 1) * 2 := by
  rw [ndV, List.length_append, flatNd_length]; simp; omega

theorem ndV_at (nd : List Nd) (i j : Nat) (x : Nd) (h : nd[i]? = some x) (hj : j < 2) : (ndV nd)[(i + 1) * 2 + j]? = x.vs[j]? := by
  rw [ndV, List.getElem?_append_right (by simp; omega), ← flatNd_at nd i j x h hj]
  congr 1
  simp; omega

theorem ndV_snoc (nd : List Nd) (x : Nd) : ndV (nd ++ [x]) = ndV nd ++ x.vs := by simp [ndV, List.flatMap_append]

/-- The cells of nodes hang on blocks and lengths alone. -/
theorem ndV_set (nd : List Nd) (i : Nat) (x y : Nd) (h : nd[i]? = some x) (e : y.vs = x.vs) : ndV (nd.set i y) = ndV nd := by
  unfold ndV
  congr 1
  induction nd generalizing i with
  | nil => rfl
  | cons z nd ih =>
    cases i with
    | zero => simp at h; subst h; simp [e]
    | succ i => simp at h; simp [ih i h]

/-- Block g is the document's graph: nodes in the slice vN, handles in the slice (hA, .., hc). -/
structure IsG (w : World) (g : Nat) (vN : Value) (hA : Option Addr) (hc : Nat) (nd : List Nd) (hs : List Int) (lg : Int) : Prop where
  blk : Blk w g #[vN, .slice hA hs.length hc, .int .i64 lg] 53
  hrow : Qu w hA hs.length hc hs
  nrow : w.ownsRow 0 45 2 vN (nd.length + 1) (ndV nd)
  ptr : ∀ x ∈ nd, Blk w x.pb (ints x.ps).toArray 3
  sca : ∀ x ∈ nd, Blk w x.sb (wordsU x.ss).toArray 28
  hap : ∀ x ∈ nd, blkOf hA ≠ some x.pb
  nap : nd.Pairwise fun x y => x.pb ≠ y.pb ∧ x.sb ≠ y.sb
  hin : ∀ h ∈ hs, 0 ≤ h ∧ h ≤ nd.length
  pin : ∀ x ∈ nd, ∀ q ∈ x.ps, 0 ≤ q ∧ q ≤ nd.length
  few : nd.length ≤ 1048576
  hfew : hs.length ≤ 64
  lg0 : 0 ≤ lg
  lg1 : lg ≤ 64
  size : ∀ x ∈ nd, x.ps.length ≤ 64 ∧ x.ss.length ≤ 64

/-- Its blocks. -/
def gOwn (g : Nat) (vN : Value) (hA : Option Addr) (nd : List Nd) (k : Nat) : Prop := k = g ∨ vN.ownBlock = some k ∨ blkOf hA = some k ∨ ∃ x ∈ nd, k = x.pb ∨ k = x.sb

/-- Block g is the graph G of the document's, in blocks of S. -/
def Rg (w : World) (g : Nat) (S : Nat → Prop) (G : Gr) : Prop :=
  ∃ vN hA hc nd, IsG w g vN hA hc nd G.hs G.lg ∧ G.ns = nd.map Nd.two ∧ S = gOwn g vN hA nd

section
variable {w w' : World} {g : Nat} {vN : Value} {hA : Option Addr} {hc : Nat} {nd : List Nd} {hs : List Int} {lg : Int}

/-- The slice of nodes. -/
theorem IsG.row (h : IsG w g vN hA hc nd hs lg) : ∃ nb nc cur, vN = .slice (some ⟨nb, 0, none⟩) (nd.length + 1) nc ∧ Blk w nb cur 45 ∧ nd.length + 1 ≤ nc ∧ nc ≤ maxLen ∧
    ∀ i j x, nd[i]? = some x → j < 2 → cur[(i + 1) * 2 + j]? = x.vs[j]? := by
  obtain ⟨hl, hv⟩ := h.nrow
  rcases hv with ⟨_, e⟩ | ⟨nb, nc, cur, e, _, hb, hn, hm, hs, ht⟩
  · omega
  · refine ⟨nb, nc, cur, e, hb, hn, hm, fun i j x hx hj => ?_⟩
    have hi : i < nd.length := (List.getElem?_eq_some_iff.1 hx).1
    rw [← ndV_at nd i j x hx hj, ← ht, List.getElem?_take_of_lt (by omega), Array.getElem?_toList]

theorem IsG.own_lt (h : IsG w g vN hA hc nd hs lg) {k : Nat} (hk : gOwn g vN hA nd k) : k < w.heap.size := by
  rcases hk with rfl | e | e | ⟨x, hx, rfl | rfl⟩
  · exact h.blk.lt
  · obtain ⟨nb, nc, cur, rfl, hb, _⟩ := h.row
    cases e
    exact hb.lt
  · exact h.hrow.lt e
  · exact (h.ptr x hx).lt
  · exact (h.sca x hx).lt

theorem ownsRow_frm {S : Nat → Prop} {e : TypeId} {k n : Nat} {v : Value} {xs : List Value} (h : w.ownsRow 0 e k v n xs) (f : Frm S w w') (hs : ∀ j, v.ownBlock = some j → ¬ S j) : w'.ownsRow 0 e k v n xs := by
  obtain ⟨hl, hv⟩ := h
  refine ⟨hl, hv.imp id ?_⟩
  rintro ⟨g, cap, cur, rfl, hb, hg, r⟩
  exact ⟨g, cap, cur, rfl, hb, (show Blk w' g cur e from Blk.frm (S := S) hg f (hs g rfl)), r⟩

theorem IsG.frm {S : Nat → Prop} (h : IsG w g vN hA hc nd hs lg) (f : Frm S w w') (dis : ∀ k, gOwn g vN hA nd k → ¬ S k) : IsG w' g vN hA hc nd hs lg :=
  { h with
    blk := h.blk.frm f (dis _ (.inl rfl))
    hrow := h.hrow.frm f fun k e => dis k (.inr (.inr (.inl e)))
    nrow := ownsRow_frm h.nrow f fun k e => dis k (.inr (.inl e))
    ptr := fun x hx => (h.ptr x hx).frm f (dis _ (.inr (.inr (.inr ⟨x, hx, .inl rfl⟩))))
    sca := fun x hx => (h.sca x hx).frm f (dis _ (.inr (.inr (.inr ⟨x, hx, .inr rfl⟩)))) }

theorem IsG.keep (h : IsG w g vN hA hc nd hs lg) (f : Below w.heap.size w w') : IsG w' g vN hA hc nd hs lg := h.frm (S := fun _ => False) (Frm.of_below f) fun _ _ e => e
end

theorem Rg.keep {w w' : World} {g : Nat} {S : Nat → Prop} {G : Gr} (h : Rg w g S G) (f : Below w.heap.size w w') : Rg w' g S G := by
  obtain ⟨vN, hA, hc, nd, hi, e, es⟩ := h
  exact ⟨vN, hA, hc, nd, hi.keep f, e, es⟩
theorem Rg.frm {w w' : World} {g : Nat} {S T : Nat → Prop} {G : Gr} (h : Rg w g S G) (f : Frm T w w') (dis : ∀ k, S k → ¬ T k) : Rg w' g S G := by
  obtain ⟨vN, hA, hc, nd, hi, e, rfl⟩ := h
  exact ⟨vN, hA, hc, nd, hi.frm f dis, e, rfl⟩
theorem Rg.lt {w : World} {g : Nat} {S : Nat → Prop} {G : Gr} (h : Rg w g S G) {k : Nat} (hk : S k) : k < w.heap.size := by
  obtain ⟨vN, hA, hc, nd, hi, e, rfl⟩ := h
  exact hi.own_lt hk
end Go.Proofs.Ytjjjeeffllelaaa
