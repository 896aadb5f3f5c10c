
/- The document's graph: how it turns in memory where a handle, a reference or a scalar is set, or a node is added. -/
import Derived.Test.YtjjjeeffllelaaaRgB
namespace Go.Proofs.Ytjjjeeffllelaaa
open Go.RowKit

section
variable {w : World} {g : Nat} {vN : Value} {hA : Option Addr} {hc : Nat} {nd : List Nd} {hs : List Int} {lg : Int}

theorem IsG.hNe (h : IsG w g vN hA hc nd hs lg) {k : Nat} {cs : Array Value} {ty : TypeId} (hk : Blk w k cs ty) (n1 : ty ≠ 3) : blkOf hA ≠ some k := by
  intro e
  rcases h.hrow.lies with ⟨rfl, _⟩ | ⟨g', off, cs', rfl, hb', _⟩
  · cases e
  · cases e
    exact Blk.ne_ hk hb' n1 rfl

/-- A handle holds something else. -/
theorem IsG.hold {q off : Nat} (h : IsG w g vN (some ⟨q, off, none⟩) hc nd hs lg) (i : Nat) (x : Int) (x0 : 0 ≤ x) (x1 : x ≤ nd.length) :
    IsG (w.setCell ⟨q, off + i, none⟩ (.int .i64 x)) g vN (some ⟨q, off, none⟩) hc nd (hs.set i x) lg ∧ Mv (gOwn g vN (some ⟨q, off, none⟩) nd) (gOwn g vN (some ⟨q, off, none⟩) nd) w (w.setCell ⟨q, off + i, none⟩ (.int .i64 x)) := by
  have fs : Frm (fun k => k = q) w (w.setCell ⟨q, off + i, none⟩ (.int .i64 x)) := Frm.setCell (S := fun k => k = q) (Frm.refl _ _) (p := ⟨q, off + i, none⟩) (fun _ => rfl) _
  have hl : (hs.set i x).length = hs.length := List.length_set
  obtain ⟨nb, nc, cur, en, hnb, _⟩ := h.row
  refine ⟨{ h with blk := ?_, hrow := ?_, nrow := ownsRow_frm h.nrow fs ?_, ptr := ?_, sca := ?_, hin := ?_, hfew := by rw [hl]; exact h.hfew }, fs.mono fun k _ e => .inr (.inr (.inl (by rw [e]; rfl))), fun k e => .inl e⟩
  · rw [hl]; exact h.blk.frm fs fun e => h.hNe h.blk (by decide) (by rw [e]; rfl)
  · rw [hl]; exact h.hrow.put i x
  · intro j e; rw [en] at e; cases e
    intro (e : nb = q)
    exact h.hNe hnb (by decide) (by rw [e]; rfl)
  · exact fun y hy => (h.ptr y hy).frm fs fun e => h.hap y hy (by rw [e]; rfl)
  · exact fun y hy => (h.sca y hy).frm fs fun e => h.hNe (h.sca y hy) (by decide) (by rw [e]; rfl)
  · intro y hy
    rcases List.mem_or_eq_of_mem_set hy with hy | rfl
    · exact h.hin y hy
    · exact ⟨x0, x1⟩

theorem nd_set {nd : List Nd} {i : Nat} {x y : Nd} (_ : nd[i]? = some x) (P : Nd → Prop) (hp : ∀ z ∈ nd, P z) (hy : P y) : ∀ z ∈ nd.set i y, P z := by
  intro z hz
  rcases List.mem_or_eq_of_mem_set hz with hz | rfl
  · exact hp z hz
  · exact hy

theorem pair_set {nd : List Nd} {i : Nat} {x y : Nd} (h : nd[i]? = some x) (e1 : y.pb = x.pb) (e2 : y.sb = x.sb) (hp : nd.Pairwise fun x y => x.pb ≠ y.pb ∧ x.sb ≠ y.sb) : (nd.set i y).Pairwise fun x y => x.pb ≠ y.pb ∧ x.sb ≠ y.sb := by
  rw [List.pairwise_iff_getElem] at hp ⊢
  intro a b ha hb hab
  rw [List.length_set] at ha hb
  obtain ⟨_, hi⟩ := List.getElem?_eq_some_iff.1 h
  have := hp a b ha hb hab
  rw [List.getElem_set, List.getElem_set]
  by_cases h1 : i = a
  · subst h1
    rw [if_pos rfl, if_neg (by omega), e1, e2, ← hi]; exact this
  · by_cases h2 : i = b
    · subst h2
      rw [if_neg h1, if_pos rfl, e1, e2, ← hi]; exact this
    · rw [if_neg h1, if_neg h2]; exact this

theorem other_blk {i : Nat} {x : Nd} (hx : nd[i]? = some x) (hp : nd.Pairwise fun x y => x.pb ≠ y.pb ∧ x.sb ≠ y.sb) {j : Nat} {z : Nd} (hz : nd[j]? = some z) (hj : i ≠ j) : z.pb ≠ x.pb ∧ z.sb ≠ x.sb := by
  rw [List.pairwise_iff_getElem] at hp
  obtain ⟨hi, rfl⟩ := List.getElem?_eq_some_iff.1 hx
  obtain ⟨hj', rfl⟩ := List.getElem?_eq_some_iff.1 hz
  rcases Nat.lt_or_gt_of_ne hj with hlt | hlt
  · have := hp i j hi hj' hlt; exact ⟨fun e => this.1 e.symm, fun e => this.2 e.symm⟩
  · exact hp j i hj' hi hlt

theorem gOwn_set {i : Nat} {x y : Nd} (hx : nd[i]? = some x) (e1 : y.pb = x.pb) (e2 : y.sb = x.sb) {k : Nat} : gOwn g vN hA (nd.set i y) k → gOwn g vN hA nd k := by
  rintro (e | e | e | ⟨z, hz, e⟩)
  · exact .inl e
  · exact .inr (.inl e)
  · exact .inr (.inr (.inl e))
  · rcases List.mem_or_eq_of_mem_set hz with hz | rfl
    · exact .inr (.inr (.inr ⟨z, hz, e⟩))
    · exact .inr (.inr (.inr ⟨x, List.mem_of_getElem? hx, by rw [← e1, ← e2]; exact e⟩))

theorem ints_set (ys : List Int) (k : Nat) (v : Int) : (ints ys).toArray.setIfInBounds k (.int .i64 v) = (ints (ys.set k v)).toArray := by apply Array.ext'; simp [ints]
theorem wordsU_set (ys : List Int) (k : Nat) (v : Int) : (wordsU ys).toArray.setIfInBounds k (.int .u64 v) = (wordsU (ys.set k v)).toArray := by apply Array.ext'; simp [wordsU]

/-- A node refers to something else. -/
theorem IsG.refer {i : Nat} {x : Nd} (h : IsG w g vN hA hc nd hs lg) (hx : nd[i]? = some x) (k : Nat) (v : Int) (v0 : 0 ≤ v) (v1 : v ≤ nd.length) :
    IsG (w.setCell ⟨x.pb, k, none⟩ (.int .i64 v)) g vN hA hc (nd.set i ⟨x.ps.set k v, x.ss, x.pb, x.sb⟩) hs lg ∧ Mv (gOwn g vN hA nd) (gOwn g vN hA (nd.set i ⟨x.ps.set k v, x.ss, x.pb, x.sb⟩)) w (w.setCell ⟨x.pb, k, none⟩ (.int .i64 v)) := by
  have fs : Frm (fun j => j = x.pb) w (w.setCell ⟨x.pb, k, none⟩ (.int .i64 v)) := Frm.setCell (S := fun j => j = x.pb) (Frm.refl _ _) (p := ⟨x.pb, k, none⟩) (fun _ => rfl) _
  have hm := List.mem_of_getElem? hx
  obtain ⟨nb, nc, cur, en, hnb, _⟩ := h.row
  have bx := h.ptr x hm
  have hl : (nd.set i ⟨x.ps.set k v, x.ss, x.pb, x.sb⟩).length = nd.length := List.length_set
  refine ⟨{ blk := h.blk.frm fs (fun e => Blk.ne_ h.blk bx (by decide) e), hrow := h.hrow.frm fs (fun j hj e => h.hap x hm (by rw [hj, e])), nrow := ?_, ptr := ?_, sca := ?_, hap := nd_set hx _ h.hap (h.hap x hm), nap := (pair_set hx rfl rfl h.nap), hin := (by rw [hl]; exact h.hin), pin := ?_, few := (by rw [hl]; exact h.few), hfew := h.hfew, lg0 := h.lg0, lg1 := h.lg1, size := nd_set hx _ h.size (by rw [List.length_set]; exact h.size x hm) }, ?_, fun j e => .inl (gOwn_set (y := ⟨x.ps.set k v, x.ss, x.pb, x.sb⟩) hx rfl rfl e)⟩
  · rw [hl, ndV_set nd i x _ hx (by simp [Nd.vs])]
    refine ownsRow_frm h.nrow fs ?_
    intro j e; rw [en] at e; cases e
    exact fun e => Blk.ne_ hnb bx (by decide) e
  · intro z hz
    rw [List.mem_iff_getElem?] at hz
    obtain ⟨j, hj⟩ := hz
    by_cases e : i = j
    · subst e
      have hi := (List.getElem?_eq_some_iff.1 hx).1
      rw [List.getElem?_set_self hi] at hj
      cases hj
      have := bx.set_ k (.int .i64 v)
      rw [ints_set] at this
      exact this
    · rw [List.getElem?_set_ne e] at hj
      exact (h.ptr z (List.mem_of_getElem? hj)).frm fs (other_blk hx h.nap hj e).1
  · refine nd_set hx (fun z => Blk (w.setCell ⟨x.pb, k, none⟩ (.int .i64 v)) z.sb (wordsU z.ss).toArray 28) (fun z hz => (h.sca z hz).frm fs fun e => Blk.ne_ (h.sca z hz) bx (by decide) e) ((h.sca x hm).frm fs fun e => Blk.ne_ (h.sca x hm) bx (by decide) e)
  · rw [hl]
    refine nd_set hx (fun z => ∀ q ∈ z.ps, 0 ≤ q ∧ q ≤ nd.length) h.pin fun q hq => ?_
    rcases List.mem_or_eq_of_mem_set hq with hq | rfl
    · exact h.pin x hm q hq
    · exact ⟨v0, v1⟩
  · exact fs.mono fun j _ e => .inr (.inr (.inr ⟨x, hm, .inl e⟩))

/-- A node has another scalar. -/
theorem IsG.write {i : Nat} {x : Nd} (h : IsG w g vN hA hc nd hs lg) (hx : nd[i]? = some x) (k : Nat) (v : Int) :
    IsG (w.setCell ⟨x.sb, k, none⟩ (.int .u64 v)) g vN hA hc (nd.set i ⟨x.ps, x.ss.set k v, x.pb, x.sb⟩) hs lg ∧ Mv (gOwn g vN hA nd) (gOwn g vN hA (nd.set i ⟨x.ps, x.ss.set k v, x.pb, x.sb⟩)) w (w.setCell ⟨x.sb, k, none⟩ (.int .u64 v)) := by
  have fs : Frm (fun j => j = x.sb) w (w.setCell ⟨x.sb, k, none⟩ (.int .u64 v)) := Frm.setCell (S := fun j => j = x.sb) (Frm.refl _ _) (p := ⟨x.sb, k, none⟩) (fun _ => rfl) _
  have hm := List.mem_of_getElem? hx
  obtain ⟨nb, nc, cur, en, hnb, _⟩ := h.row
  have bx := h.sca x hm
  have hl : (nd.set i ⟨x.ps, x.ss.set k v, x.pb, x.sb⟩).length = nd.length := List.length_set
  refine ⟨{ blk := h.blk.frm fs (fun e => Blk.ne_ h.blk bx (by decide) e), hrow := h.hrow.frm fs (fun j hj e => h.hNe bx (by decide) (by rw [hj, e])), nrow := ?_, ptr := ?_, sca := ?_, hap := nd_set hx _ h.hap (h.hap x hm), nap := (pair_set hx rfl rfl h.nap), hin := (by rw [hl]; exact h.hin), pin := ?_, few := (by rw [hl]; exact h.few), hfew := h.hfew, lg0 := h.lg0, lg1 := h.lg1, size := nd_set hx _ h.size (by rw [List.length_set]; exact h.size x hm) }, ?_, fun j e => .inl (gOwn_set (y := ⟨x.ps, x.ss.set k v, x.pb, x.sb⟩) hx rfl rfl e)⟩
  · rw [hl, ndV_set nd i x _ hx (by simp [Nd.vs])]
    refine ownsRow_frm h.nrow fs ?_
    intro j e; rw [en] at e; cases e
    exact fun e => Blk.ne_ hnb bx (by decide) e
  · refine nd_set hx (fun z => Blk (w.setCell ⟨x.sb, k, none⟩ (.int .u64 v)) z.pb (ints z.ps).toArray 3) (fun z hz => (h.ptr z hz).frm fs fun e => Blk.ne_ (h.ptr z hz) bx (by decide) e) ((h.ptr x hm).frm fs fun e => Blk.ne_ (h.ptr x hm) bx (by decide) e)
  · intro z hz
    rw [List.mem_iff_getElem?] at hz
    obtain ⟨j, hj⟩ := hz
    by_cases e : i = j
    · subst e
      have hi := (List.getElem?_eq_some_iff.1 hx).1
      rw [List.getElem?_set_self hi] at hj
      cases hj
      have := bx.set_ k (.int .u64 v)
      rw [wordsU_set] at this
      exact this
    · rw [List.getElem?_set_ne e] at hj
      exact (h.sca z (List.mem_of_getElem? hj)).frm fs (other_blk hx h.nap hj e).2
  · rw [hl]
    exact nd_set hx (fun z => ∀ q ∈ z.ps, 0 ≤ q ∧ q ≤ nd.length) h.pin (h.pin x hm)
  · exact fs.mono fun j _ e => .inr (.inr (.inr ⟨x, hm, .inr e⟩))
end

section
variable {w : World} {g : Nat} {S : Nat → Prop} {G : Gr}
/-- A node that there is. -/
theorem node_at {nd : List Nd} (e : G.ns = nd.map Nd.two) {x : Int} (x0 : 0 < x) (x1 : x ≤ nd.length) : ∃ (i : Nat) (y : Nd), x = ((i + 1 : Nat) : Int) ∧ nd[i]? = some y ∧ G.node x = (y.ps, y.ss) ∧ x.toNat - 1 = i := by
  obtain ⟨i, rfl⟩ : ∃ i : Nat, x = ((i + 1 : Nat) : Int) := ⟨x.toNat - 1, by omega⟩
  have hi : i < nd.length := by omega
  refine ⟨i, _, rfl, List.getElem?_eq_getElem hi, ?_, by omega⟩
  unfold Gr.node
  rw [e, Int.toNat_natCast, Nat.add_sub_cancel, List.getD_eq_getElem?_getD, List.getElem?_map, List.getElem?_eq_getElem hi]
  rfl
end
end Go.Proofs.Ytjjjeeffllelaaa
