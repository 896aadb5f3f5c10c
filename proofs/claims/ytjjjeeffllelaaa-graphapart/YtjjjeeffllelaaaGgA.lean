/- The program's graph (nodes as blocks that point at one another) as it lies in memory: the same lists as the document's, its nodes by their numbers. -/
import Derived.Test.YtjjjeeffllelaaaRgB
import Derived.Test.YtjjjeeffllelaaaRgC
import Derived.Test.YtjjjeeffllelaaaRgN
namespace Go.Proofs.Ytjjjeeffllelaaa
open Go.RowKit

/-- A node: what it refers to (by numbers), its scalars; its box, and the blocks of both rows. -/
structure Pd where
  ps : List Int
  ss : List Int
  nb : Nat
  pb : Nat
  sb : Nat
def Pd.two (x : Pd) : List Int × List Int := (x.ps, x.ss)
def bls (nd : List Pd) : List Nat := nd.map Pd.nb

/-- The pointer to a node of this number; 0: none. -/
def ptA (bl : List Nat) (x : Int) : Option Addr := if x = 0 then none else some ⟨bl.getD (x.toNat - 1) 0, 0, none⟩
def ptV (bl : List Nat) (x : Int) : Value := .pointer (ptA bl x)
def ptVs (bl : List Nat) (xs : List Int) : List Value := xs.map (ptV bl)

theorem ptV_zero (bl : List Nat) : ptV bl 0 = .pointer none := rfl
theorem ptV_at {nd : List Pd} {k : Nat} {y : Pd} (h : nd[k]? = some y) : ptV (bls nd) ((k + 1 : Nat) : Int) = .pointer (some ⟨y.nb, 0, none⟩) := by
  unfold ptV ptA
  rw [if_neg (by omega), Int.toNat_natCast, Nat.add_sub_cancel, List.getD_eq_getElem?_getD, bls, List.getElem?_map, h]
  rfl
theorem ptV_snoc {bl : List Nat} (b : Nat) {x : Int} (h0 : 0 ≤ x) (h : x ≤ bl.length) : ptV (bl ++ [b]) x = ptV bl x := by
  unfold ptV ptA
  by_cases e : x = 0
  · rw [if_pos e, if_pos e]
  · rw [if_neg e, if_neg e, List.getD_eq_getElem?_getD, List.getD_eq_getElem?_getD, List.getElem?_append_left (by omega)]
theorem ptVs_snoc {bl : List Nat} (b : Nat) {xs : List Int} (h : ∀ x ∈ xs, 0 ≤ x ∧ x ≤ bl.length) : ptVs (bl ++ [b]) xs = ptVs bl xs :=
  List.map_congr_left fun x hx => ptV_snoc b (h x hx).1 (h x hx).2
theorem ptVs_set (bl : List Nat) (xs : List Int) (k : Nat) (v : Int) : (ptVs bl xs).toArray.setIfInBounds k (ptV bl v) = (ptVs bl (xs.set k v)).toArray := by apply Array.ext'; simp [ptVs]
theorem ptVs_at {bl : List Nat} {xs : List Int} {i : Nat} {x : Int} (h : xs[i]? = some x) : (ptVs bl xs).toArray[i]? = some (ptV bl x) := by simp [ptVs, h]
theorem bls_set {nd : List Pd} {i : Nat} {x y : Pd} (hx : nd[i]? = some x) (e : y.nb = x.nb) : bls (nd.set i y) = bls nd := by
  unfold bls
  rw [List.map_set, e]
  have : (nd.map Pd.nb)[i]? = some x.nb := by rw [List.getElem?_map, hx]; rfl
  refine List.ext_getElem? fun j => ?_
  by_cases k : i = j
  · subst k
    rw [List.getElem?_set_self (List.getElem?_eq_some_iff.1 this).1, this]
  · rw [List.getElem?_set_ne k]

abbrev pdB (pb sb m n : Nat) : Array Value := #[.slice (some ⟨pb, 0, none⟩) m m, .slice (some ⟨sb, 0, none⟩) n n]

/-- Block g is the program's graph: handles in block hb. -/
structure IsP (w : World) (g hb : Nat) (nd : List Pd) (hs : List Int) (lg : Int) : Prop where
  blk : Blk w g #[.slice (some ⟨hb, 0, none⟩) hs.length hs.length, .int .i64 lg] 51
  hrow : Blk w hb (ptVs (bls nd) hs).toArray 66
  box : ∀ x ∈ nd, Blk w x.nb (pdB x.pb x.sb x.ps.length x.ss.length) 68
  ptr : ∀ x ∈ nd, Blk w x.pb (ptVs (bls nd) x.ps).toArray 66
  sca : ∀ x ∈ nd, Blk w x.sb (wordsU x.ss).toArray 28
  hap : ∀ x ∈ nd, hb ≠ x.pb
  nap : nd.Pairwise fun x y => x.nb ≠ y.nb ∧ x.pb ≠ y.pb ∧ x.sb ≠ y.sb
  hin : ∀ h ∈ hs, 0 ≤ h ∧ h ≤ nd.length
  pin : ∀ x ∈ nd, ∀ q ∈ x.ps, 0 ≤ q ∧ q ≤ nd.length
  hfew : hs.length ≤ 64
  lg0 : 0 ≤ lg
  lg1 : lg ≤ 64
  size : ∀ x ∈ nd, x.ps.length ≤ 64 ∧ x.ss.length ≤ 64

/-- Its blocks. -/
def pOwn (g hb : Nat) (nd : List Pd) (k : Nat) : Prop := k = g ∨ k = hb ∨ ∃ x ∈ nd, k = x.nb ∨ k = x.pb ∨ k = x.sb

/-- Block g is the graph G, in blocks of S. -/
def Pg (w : World) (g : Nat) (S : Nat → Prop) (G : Gr) : Prop := ∃ hb nd, IsP w g hb nd G.hs G.lg ∧ G.ns = nd.map Pd.two ∧ S = pOwn g hb nd

section
variable {w w' : World} {g hb : Nat} {nd : List Pd} {hs : List Int} {lg : Int}

theorem IsP.own_lt (h : IsP w g hb nd hs lg) {k : Nat} (hk : pOwn g hb nd k) : k < w.heap.size := by
  rcases hk with rfl | rfl | ⟨x, hx, rfl | rfl | rfl⟩
  · exact h.blk.lt
  · exact h.hrow.lt
  · exact (h.box x hx).lt
  · exact (h.ptr x hx).lt
  · exact (h.sca x hx).lt

theorem IsP.frm {S : Nat → Prop} (h : IsP w g hb nd hs lg) (f : Frm S w w') (dis : ∀ k, pOwn g hb nd k → ¬ S k) : IsP w' g hb nd hs lg :=
  { h with
    blk := h.blk.frm f (dis _ (.inl rfl))
    hrow := h.hrow.frm f (dis _ (.inr (.inl rfl)))
    box := fun x hx => (h.box x hx).frm f (dis _ (.inr (.inr ⟨x, hx, .inl rfl⟩)))
    ptr := fun x hx => (h.ptr x hx).frm f (dis _ (.inr (.inr ⟨x, hx, .inr (.inl rfl)⟩)))
    sca := fun x hx => (h.sca x hx).frm f (dis _ (.inr (.inr ⟨x, hx, .inr (.inr rfl)⟩))) }

theorem IsP.keep (h : IsP w g hb nd hs lg) (f : Below w.heap.size w w') : IsP w' g hb nd hs lg := h.frm (S := fun _ => False) (Frm.of_below f) fun _ _ e => e

theorem IsP.two (h : IsP w g hb nd hs lg) : w.cell? ⟨g, 0, none⟩ = some (.slice (some ⟨hb, 0, none⟩) hs.length hs.length) ∧ w.cell? ⟨g, 1, none⟩ = some (.int .i64 lg) := ⟨h.blk.cell 0, h.blk.cell 1⟩
theorem IsP.held (h : IsP w g hb nd hs lg) {i : Nat} {x : Int} (hx : hs[i]? = some x) : w.cell? ⟨hb, i, none⟩ = some (ptV (bls nd) x) := by
  rw [h.hrow.cell]; exact ptVs_at hx

theorem pd_set {i : Nat} {x y : Pd} (_hx : nd[i]? = some x) (Q : Pd → Prop) (h : ∀ z ∈ nd, Q z) (hy : Q y) : ∀ z ∈ nd.set i y, Q z := by
  intro z hz
  rcases List.mem_or_eq_of_mem_set hz with hz | rfl
  · exact h z hz
  · exact hy
theorem pairP_set {i : Nat} {x y : Pd} (hx : nd[i]? = some x) (e0 : y.nb = x.nb) (e1 : y.pb = x.pb) (e2 : y.sb = x.sb) (h : nd.Pairwise fun x y => x.nb ≠ y.nb ∧ x.pb ≠ y.pb ∧ x.sb ≠ y.sb) :
    (nd.set i y).Pairwise fun x y => x.nb ≠ y.nb ∧ x.pb ≠ y.pb ∧ x.sb ≠ y.sb := by
  rw [List.pairwise_iff_getElem] at h ⊢
  obtain ⟨hi, rfl⟩ := List.getElem?_eq_some_iff.1 hx
  intro a b ha hb hab
  rw [List.length_set] at ha hb
  have := h a b ha hb hab
  rw [List.getElem_set, List.getElem_set]
  split <;> split
  · omega
  · rename_i k _
    subst k
    rw [e0, e1, e2]
    exact this
  · rename_i _ k
    subst k
    rw [e0, e1, e2]
    exact this
  · exact this
theorem otherP_blk {i : Nat} {x : Pd} (hx : nd[i]? = some x) (hp : nd.Pairwise fun x y => x.nb ≠ y.nb ∧ x.pb ≠ y.pb ∧ x.sb ≠ y.sb) {j : Nat} {z : Pd} (hz : nd[j]? = some z) (hj : i ≠ j) : z.nb ≠ x.nb ∧ z.pb ≠ x.pb ∧ z.sb ≠ x.sb := by
  rw [List.pairwise_iff_getElem] at hp
  obtain ⟨hi, rfl⟩ := List.getElem?_eq_some_iff.1 hx
  obtain ⟨hj', rfl⟩ := List.getElem?_eq_some_iff.1 hz
  rcases Nat.lt_or_gt_of_ne hj with hlt | hlt
  · have := hp i j hi hj' hlt; exact ⟨fun e => this.1 e.symm, fun e => this.2.1 e.symm, fun e => this.2.2 e.symm⟩
  · exact hp j i hj' hi hlt
theorem pOwn_set {i : Nat} {x y : Pd} (hx : nd[i]? = some x) (e0 : y.nb = x.nb) (e1 : y.pb = x.pb) (e2 : y.sb = x.sb) {k : Nat} : pOwn g hb (nd.set i y) k → pOwn g hb nd k := by
  rintro (e | e | ⟨z, hz, e⟩)
  · exact .inl e
  · exact .inr (.inl e)
  · rcases List.mem_or_eq_of_mem_set hz with hz | rfl
    · exact .inr (.inr ⟨z, hz, e⟩)
    · exact .inr (.inr ⟨x, List.mem_of_getElem? hx, by rw [← e0, ← e1, ← e2]; exact e⟩)

/-- A handle holds something else. -/
theorem IsP.hold (h : IsP w g hb nd hs lg) (i : Nat) (v : Int) (v0 : 0 ≤ v) (v1 : v ≤ nd.length) :
    IsP (w.setCell ⟨hb, i, none⟩ (ptV (bls nd) v)) g hb nd (hs.set i v) lg ∧ Mv (pOwn g hb nd) (pOwn g hb nd) w (w.setCell ⟨hb, i, none⟩ (ptV (bls nd) v)) := by
  have fs : Frm (fun j => j = hb) w (w.setCell ⟨hb, i, none⟩ (ptV (bls nd) v)) := Frm.setCell (S := fun j => j = hb) (Frm.refl _ _) (p := ⟨hb, i, none⟩) (fun _ => rfl) _
  have hr := h.hrow.set_ i (ptV (bls nd) v)
  rw [ptVs_set] at hr
  refine ⟨{ h with
    blk := by rw [List.length_set]; exact h.blk.frm fs (fun e => Blk.ne_ h.blk h.hrow (by decide) e)
    hrow := hr
    box := fun x hx => (h.box x hx).frm fs (fun e => Blk.ne_ (h.box x hx) h.hrow (by decide) e)
    ptr := fun x hx => (h.ptr x hx).frm fs (fun e => h.hap x hx e.symm)
    sca := fun x hx => (h.sca x hx).frm fs (fun e => Blk.ne_ (h.sca x hx) h.hrow (by decide) e)
    hin := fun q hq => by
      rcases List.mem_or_eq_of_mem_set hq with hq | rfl
      · exact h.hin q hq
      · exact ⟨v0, v1⟩
    hfew := by rw [List.length_set]; exact h.hfew }, fs.mono fun j _ e => .inr (.inl e), fun j e => .inl e⟩

/-- A node refers to something else. -/
theorem IsP.refer {i : Nat} {x : Pd} (h : IsP w g hb nd hs lg) (hx : nd[i]? = some x) (k : Nat) (v : Int) (v0 : 0 ≤ v) (v1 : v ≤ nd.length) :
    IsP (w.setCell ⟨x.pb, k, none⟩ (ptV (bls nd) v)) g hb (nd.set i ⟨x.ps.set k v, x.ss, x.nb, x.pb, x.sb⟩) hs lg ∧
      Mv (pOwn g hb nd) (pOwn g hb (nd.set i ⟨x.ps.set k v, x.ss, x.nb, x.pb, x.sb⟩)) w (w.setCell ⟨x.pb, k, none⟩ (ptV (bls nd) v)) := by
  have fs : Frm (fun j => j = x.pb) w (w.setCell ⟨x.pb, k, none⟩ (ptV (bls nd) v)) := Frm.setCell (S := fun j => j = x.pb) (Frm.refl _ _) (p := ⟨x.pb, k, none⟩) (fun _ => rfl) _
  have hm := List.mem_of_getElem? hx
  have bx := h.ptr x hm
  have hl : (nd.set i ⟨x.ps.set k v, x.ss, x.nb, x.pb, x.sb⟩).length = nd.length := List.length_set
  have eb : bls (nd.set i ⟨x.ps.set k v, x.ss, x.nb, x.pb, x.sb⟩) = bls nd := bls_set hx rfl
  refine ⟨{ blk := h.blk.frm fs (fun e => Blk.ne_ h.blk bx (by decide) e), hrow := by rw [eb]; exact h.hrow.frm fs (h.hap x hm), box := ?_, ptr := ?_, sca := ?_, hap := pd_set hx _ h.hap (h.hap x hm), nap := pairP_set hx rfl rfl rfl h.nap, hin := (by rw [hl]; exact h.hin), pin := ?_, hfew := h.hfew, lg0 := h.lg0, lg1 := h.lg1, size := pd_set hx _ h.size (by rw [List.length_set]; exact h.size x hm) },
    fs.mono fun j _ e => .inr (.inr ⟨x, hm, .inr (.inl e)⟩), fun j e => .inl (pOwn_set (y := ⟨x.ps.set k v, x.ss, x.nb, x.pb, x.sb⟩) hx rfl rfl rfl e)⟩
  · exact pd_set hx (fun z => Blk _ z.nb (pdB z.pb z.sb z.ps.length z.ss.length) 68) (fun z hz => (h.box z hz).frm fs fun e => Blk.ne_ (h.box z hz) bx (by decide) e) (by
      rw [List.length_set]; exact (h.box x hm).frm fs fun e => Blk.ne_ (h.box x hm) bx (by decide) e)
  · rw [eb]
    intro z hz
    rw [List.mem_iff_getElem?] at hz
    obtain ⟨j, hj⟩ := hz
    by_cases e : i = j
    · subst e
      rw [List.getElem?_set_self (List.getElem?_eq_some_iff.1 hx).1] at hj
      cases hj
      have := bx.set_ k (ptV (bls nd) v)
      rw [ptVs_set] at this
      exact this
    · rw [List.getElem?_set_ne e] at hj
      exact (h.ptr z (List.mem_of_getElem? hj)).frm fs (otherP_blk hx h.nap hj e).2.1
  · exact pd_set hx (fun z => Blk _ z.sb (wordsU z.ss).toArray 28) (fun z hz => (h.sca z hz).frm fs fun e => Blk.ne_ (h.sca z hz) bx (by decide) e) ((h.sca x hm).frm fs fun e => Blk.ne_ (h.sca x hm) bx (by decide) e)
  · rw [hl]
    refine pd_set hx (fun z => ∀ q ∈ z.ps, 0 ≤ q ∧ q ≤ nd.length) h.pin fun q hq => ?_
    rcases List.mem_or_eq_of_mem_set hq with hq | rfl
    · exact h.pin x hm q hq
    · exact ⟨v0, v1⟩

/-- A node has another scalar. -/
theorem IsP.write {i : Nat} {x : Pd} (h : IsP w g hb nd hs lg) (hx : nd[i]? = some x) (k : Nat) (v : Int) :
    IsP (w.setCell ⟨x.sb, k, none⟩ (.int .u64 v)) g hb (nd.set i ⟨x.ps, x.ss.set k v, x.nb, x.pb, x.sb⟩) hs lg ∧
      Mv (pOwn g hb nd) (pOwn g hb (nd.set i ⟨x.ps, x.ss.set k v, x.nb, x.pb, x.sb⟩)) w (w.setCell ⟨x.sb, k, none⟩ (.int .u64 v)) := by
  have fs : Frm (fun j => j = x.sb) w (w.setCell ⟨x.sb, k, none⟩ (.int .u64 v)) := Frm.setCell (S := fun j => j = x.sb) (Frm.refl _ _) (p := ⟨x.sb, k, none⟩) (fun _ => rfl) _
  have hm := List.mem_of_getElem? hx
  have bx := h.sca x hm
  have hl : (nd.set i ⟨x.ps, x.ss.set k v, x.nb, x.pb, x.sb⟩).length = nd.length := List.length_set
  have eb : bls (nd.set i ⟨x.ps, x.ss.set k v, x.nb, x.pb, x.sb⟩) = bls nd := bls_set hx rfl
  refine ⟨{ blk := h.blk.frm fs (fun e => Blk.ne_ h.blk bx (by decide) e), hrow := by rw [eb]; exact h.hrow.frm fs (fun e => Blk.ne_ h.hrow bx (by decide) e), box := ?_, ptr := ?_, sca := ?_, hap := pd_set hx _ h.hap (h.hap x hm), nap := pairP_set hx rfl rfl rfl h.nap, hin := (by rw [hl]; exact h.hin), pin := ?_, hfew := h.hfew, lg0 := h.lg0, lg1 := h.lg1, size := pd_set hx _ h.size (by rw [List.length_set]; exact h.size x hm) },
    fs.mono fun j _ e => .inr (.inr ⟨x, hm, .inr (.inr e)⟩), fun j e => .inl (pOwn_set (y := ⟨x.ps, x.ss.set k v, x.nb, x.pb, x.sb⟩) hx rfl rfl rfl e)⟩
  · exact pd_set hx (fun z => Blk _ z.nb (pdB z.pb z.sb z.ps.length z.ss.length) 68) (fun z hz => (h.box z hz).frm fs fun e => Blk.ne_ (h.box z hz) bx (by decide) e) (by
      rw [List.length_set]; exact (h.box x hm).frm fs fun e => Blk.ne_ (h.box x hm) bx (by decide) e)
  · rw [eb]
    exact pd_set hx (fun z => Blk _ z.pb (ptVs (bls nd) z.ps).toArray 66) (fun z hz => (h.ptr z hz).frm fs fun e => Blk.ne_ (h.ptr z hz) bx (by decide) e) ((h.ptr x hm).frm fs fun e => Blk.ne_ (h.ptr x hm) bx (by decide) e)
  · intro z hz
    rw [List.mem_iff_getElem?] at hz
    obtain ⟨j, hj⟩ := hz
    by_cases e : i = j
    · subst e
      rw [List.getElem?_set_self (List.getElem?_eq_some_iff.1 hx).1] at hj
      cases hj
      have := bx.set_ k (.int .u64 v)
      rw [wordsU_set] at this
      exact this
    · rw [List.getElem?_set_ne e] at hj
      exact (h.sca z (List.mem_of_getElem? hj)).frm fs (otherP_blk hx h.nap hj e).2.2
  · rw [hl]
    exact pd_set hx (fun z => ∀ q ∈ z.ps, 0 ≤ q ∧ q ≤ nd.length) h.pin (h.pin x hm)

/-- A node that was just made, held by a handle. -/
theorem IsP.add {p s q m n : Nat} {W : World} (h : IsP w g hb nd hs lg) (f : Below w.heap.size w W) (hp : Blk W p (ptVs [] (List.replicate m 0)).toArray 66) (hs_ : Blk W s (wordsU (List.replicate n 0)).toArray 28) (hq : Blk W q (pdB p s m n) 68)
    (p0 : w.heap.size ≤ p) (s0 : w.heap.size ≤ s) (q0 : w.heap.size ≤ q) (hm : m ≤ 64) (hn : n ≤ 64) (i : Nat) :
    IsP (W.setCell ⟨hb, i, none⟩ (.pointer (some ⟨q, 0, none⟩))) g hb (nd ++ [⟨List.replicate m 0, List.replicate n 0, q, p, s⟩]) (hs.set i (nd.length + 1)) lg ∧
      Mv (pOwn g hb nd) (pOwn g hb (nd ++ [⟨List.replicate m 0, List.replicate n 0, q, p, s⟩])) w (W.setCell ⟨hb, i, none⟩ (.pointer (some ⟨q, 0, none⟩))) := by
  have k := h.keep f
  have lt : ∀ {j : Nat}, pOwn g hb nd j → j < w.heap.size := fun e => h.own_lt e
  have hl : (nd ++ [(⟨List.replicate m 0, List.replicate n 0, q, p, s⟩ : Pd)]).length = nd.length + 1 := by simp
  have eb : bls (nd ++ [(⟨List.replicate m 0, List.replicate n 0, q, p, s⟩ : Pd)]) = bls nd ++ [q] := by simp [bls]
  have bl : (bls nd).length = nd.length := by simp [bls]
  have zz : ptVs (bls nd ++ [q]) (List.replicate m 0) = ptVs [] (List.replicate m 0) := by simp [ptVs, ptV, ptA]
  have mem : ∀ {Q : Pd → Prop}, (∀ z ∈ nd, Q z) → Q ⟨List.replicate m 0, List.replicate n 0, q, p, s⟩ → ∀ z ∈ nd ++ [(⟨List.replicate m 0, List.replicate n 0, q, p, s⟩ : Pd)], Q z := fun h1 h2 z hz => by
    rcases List.mem_append.1 hz with hz | hz
    · exact h1 z hz
    · rw [List.mem_singleton] at hz; subst hz; exact h2
  have I1 : IsP W g hb (nd ++ [⟨List.replicate m 0, List.replicate n 0, q, p, s⟩]) hs lg := {
    blk := k.blk
    hrow := by rw [eb, ptVs_snoc q fun x hx => by rw [bl]; exact h.hin x hx]; exact k.hrow
    box := mem k.box (by rw [List.length_replicate, List.length_replicate]; exact hq)
    ptr := by rw [eb]; exact mem (fun z hz => by rw [ptVs_snoc q fun x hx => by rw [bl]; exact h.pin z hz x hx]; exact k.ptr z hz) (by rw [zz]; exact hp)
    sca := mem k.sca hs_
    hap := mem k.hap (by have := lt (j := hb) (.inr (.inl rfl)); show hb ≠ p; omega)
    nap := List.pairwise_append.2 ⟨k.nap, List.pairwise_singleton _ _, fun a ha b hb_ => by
      rw [List.mem_singleton] at hb_
      subst hb_
      have h1 := lt (j := a.nb) (.inr (.inr ⟨a, ha, .inl rfl⟩))
      have h2 := lt (j := a.pb) (.inr (.inr ⟨a, ha, .inr (.inl rfl)⟩))
      have h3 := lt (j := a.sb) (.inr (.inr ⟨a, ha, .inr (.inr rfl)⟩))
      exact ⟨by show a.nb ≠ q; omega, by show a.pb ≠ p; omega, by show a.sb ≠ s; omega⟩⟩
    hin := fun x hx => by rw [hl]; have := h.hin x hx; omega
    pin := mem (fun z hz x hx => by rw [hl]; have := h.pin z hz x hx; omega) (fun x hx => by rw [List.eq_of_mem_replicate hx]; omega)
    hfew := h.hfew
    lg0 := h.lg0
    lg1 := h.lg1
    size := mem h.size (by rw [List.length_replicate, List.length_replicate]; exact ⟨hm, hn⟩) }
  have ev : ptV (bls (nd ++ [(⟨List.replicate m 0, List.replicate n 0, q, p, s⟩ : Pd)])) ((nd.length + 1 : Nat) : Int) = .pointer (some ⟨q, 0, none⟩) := ptV_at (nd := nd ++ [(⟨List.replicate m 0, List.replicate n 0, q, p, s⟩ : Pd)]) (by rw [List.getElem?_append_right (Nat.le_refl _), Nat.sub_self]; rfl)
  have r := I1.hold i ((nd.length + 1 : Nat) : Int) (by omega) (by rw [hl]; omega)
  rw [ev] at r
  refine ⟨by have := r.1; push_cast at this; exact this, ?_, ?_⟩
  · have fs : Frm (fun j => j = hb) W (W.setCell ⟨hb, i, none⟩ (.pointer (some ⟨q, 0, none⟩))) := Frm.setCell (S := fun j => j = hb) (Frm.refl _ _) (p := ⟨hb, i, none⟩) (fun _ => rfl) _
    exact (Frm.of_below f).trans (fs.mono (S' := pOwn g hb nd) fun j _ e => .inr (.inl e)) fun j _ e => e
  · rintro j (e | e | ⟨z, hz, e⟩)
    · exact .inl (.inl e)
    · exact .inl (.inr (.inl e))
    · rcases List.mem_append.1 hz with hz | hz
      · exact .inl (.inr (.inr ⟨z, hz, e⟩))
      · rw [List.mem_singleton] at hz
        subst hz
        right
        rcases e with rfl | rfl | rfl
        · exact q0
        · exact p0
        · exact s0

theorem nodeP_at {G : Gr} (e : G.ns = nd.map Pd.two) {x : Int} (x0 : 0 < x) (x1 : x ≤ nd.length) : ∃ (i : Nat) (y : Pd), x = ((i + 1 : Nat) : Int) ∧ nd[i]? = some y ∧ G.node x = (y.ps, y.ss) ∧ x.toNat - 1 = i := by
  obtain ⟨i, rfl⟩ : ∃ i : Nat, x = ((i + 1 : Nat) : Int) := ⟨x.toNat - 1, by omega⟩
  have hi : i < nd.length := by omega
  refine ⟨i, _, rfl, List.getElem?_eq_getElem hi, ?_, by omega⟩
  unfold Gr.node
  rw [e, Int.toNat_natCast, Nat.add_sub_cancel, List.getD_eq_getElem?_getD, List.getElem?_map, List.getElem?_eq_getElem hi]
  rfl
theorem twoP_set {ns : List (List Int × List Int)} (e : ns = nd.map Pd.two) (i : Nat) (y : Pd) : ns.set i (y.ps, y.ss) = (nd.set i y).map Pd.two := by
  rw [e, List.map_set]; rfl
end

section
variable {w w' : World} {g : Nat} {S T : Nat → Prop} {G : Gr}
theorem Pg.keep (h : Pg w g S G) (f : Below w.heap.size w w') : Pg w' g S G := by
  obtain ⟨hb, nd, hi, e, es⟩ := h
  exact ⟨hb, nd, hi.keep f, e, es⟩
theorem Pg.frm (h : Pg w g S G) (f : Frm T w w') (dis : ∀ k, S k → ¬ T k) : Pg w' g S G := by
  obtain ⟨hb, nd, hi, e, rfl⟩ := h
  exact ⟨hb, nd, hi.frm f dis, e, rfl⟩
theorem Pg.lt (h : Pg w g S G) {k : Nat} (hk : S k) : k < w.heap.size := by
  obtain ⟨hb, nd, hi, e, rfl⟩ := h
  exact hi.own_lt hk
theorem Pg.at_ (h : Pg w g S G) {a : Int} (ha : G.has a = true) : ∃ (i : Nat) (x : Int), a = i ∧ i < G.hs.length ∧ G.hs[i]? = some x ∧ G.held a = x ∧ 0 ≤ x ∧ x ≤ G.ns.length := by
  obtain ⟨hb, nd, hi, e, rfl⟩ := h
  unfold Gr.has at ha
  simp at ha
  obtain ⟨i, rfl⟩ : ∃ i : Nat, a = i := ⟨a.toNat, by omega⟩
  have hl : i < G.hs.length := by omega
  have hx := List.getElem?_eq_getElem hl
  have hin := hi.hin _ (List.mem_of_getElem? hx)
  refine ⟨i, _, rfl, hl, hx, ?_, hin.1, ?_⟩
  · unfold Gr.held
    rw [Int.toNat_natCast, List.getD_eq_getElem?_getD, hx]; rfl
  · rw [e, List.length_map]; exact hin.2
end
end Go.Proofs.Ytjjjeeffllelaaa
