/- What a statement of layer 7 has at hand: an arena, and blocks beside it. -/
import Derived.Test.YthhbamllnacklaaObjE
import Derived.Test.YthhbamllnacklaaLists
namespace Go.Proofs.Ythhbamllnacklaa
open Go.RowKit

/-- An arena made since w0, and blocks beside it. -/
structure Ses (w0 w : World) (a b : Nat) (ws : List Int) (rs : List (Nat × Array Value × Nat)) : Prop where
  has : Has w a b ws
  old : Below w0.heap.size w0 w
  ge : w0.heap.size ≤ a ∧ w0.heap.size ≤ b
  blk : ∀ r ∈ rs, Blk w r.1 r.2.1 r.2.2 ∧ r.1 ≠ a ∧ r.1 ≠ b

section
variable {w0 w w' : World} {a b : Nat} {ws vs : List Int} {rs : List (Nat × Array Value × Nat)}
theorem Ses.keep (s : Ses w0 w a b ws rs) (h : Below w.heap.size w w') : Ses w0 w' a b ws rs :=
  ⟨s.has.keep h, below_trans s.old h, s.ge, fun r hr => ⟨(s.blk r hr).1.keep h, (s.blk r hr).2⟩⟩
theorem Ses.step (s : Ses w0 w a b ws rs) (h : Now a b vs w w') : Ses w0 w' a b vs rs :=
  ⟨h.is, below_now s.old h s.ge.1 s.ge.2, s.ge, fun r hr => ⟨h.blk (s.blk r hr).1 (s.blk r hr).2.1 (s.blk r hr).2.2, (s.blk r hr).2⟩⟩
theorem Ses.alloc (s : Ses w0 w a b ws rs) (o : Obj) : Ses w0 (w.alloc o) a b ws rs := s.keep ((Below.refl _ _).alloc (Nat.le_refl _) o)
theorem Ses.add (s : Ses w0 w a b ws rs) {r : Nat} {cs : Array Value} {t : Nat} (h : Blk w r cs t) (ha : r ≠ a) (hb : r ≠ b) : Ses w0 w a b ws ((r, cs, t) :: rs) :=
  ⟨s.has, s.old, s.ge, fun x hx => by
    rcases List.mem_cons.1 hx with rfl | hx
    · exact ⟨h, ha, hb⟩
    · exact s.blk x hx⟩
theorem Ses.box (s : Ses w0 w a b ws rs) {cs : Array Value} {t : Nat} : Ses w0 (w.alloc (.cells cs t)) a b ws ((w.heap.size, cs, t) :: rs) :=
  (s.alloc _).add (Blk.new w cs t) (by have := s.has.lt; omega) (by have := s.has.lt; omega)
theorem Ses.far (s : Ses w0 w a b ws rs) {p : Addr} (h0 : w0.heap.size ≤ p.block) (ha : p.block ≠ a) (hb : p.block ≠ b) (hr : ∀ r ∈ rs, r.1 ≠ p.block) (v : Value) : Ses w0 (w.setCell p v) a b ws rs := by
  obtain ⟨c, i1, i2⟩ := s.has
  exact ⟨⟨c, i1.far (Ne.symm ha) v, i2.far (Ne.symm hb) v⟩, s.old.setCell h0 v, s.ge, fun r h => ⟨(s.blk r h).1.far (hr r h) v, (s.blk r h).2⟩⟩
theorem Ses.grown (s : Ses w0 w a b ws rs) {g : Nat} (hg : w.grownBy w' (some g)) (h0 : w0.heap.size ≤ g) (ha : g ≠ a) (hb : g ≠ b) (hr : ∀ r ∈ rs, r.1 ≠ g) : Ses w0 w' a b ws rs := by
  obtain ⟨c, i1, i2⟩ := s.has
  refine ⟨⟨c, (hg.block a i1.lt (by simp; omega)).trans i1, (hg.block b i2.lt (by simp; omega)).trans i2⟩, ?_, s.ge, fun r h => ⟨(hg.block r.1 (s.blk r h).1.lt (by have := hr r h; simp; omega)).trans (s.blk r h).1, (s.blk r h).2⟩⟩
  exact s.old.trans ⟨hg.os, hg.tape, hg.output, hg.size, fun k hk => hg.block k (Nat.lt_of_lt_of_le hk s.old.size) (by simp; omega)⟩
theorem Ses.lt (s : Ses w0 w a b ws rs) : ∀ r ∈ rs, r.1 < w.heap.size := fun r h => (s.blk r h).1.lt
end

/-- What a row's cells are, the block apart. -/
def RowC (cur : Array Value) (cap : Nat) (ys : List Int) : Prop := ys.length ≤ cap ∧ cap ≤ maxLen ∧ cur.size = cap ∧ cur.toList.take ys.length = vals ys

theorem Row.parts {w : World} {g cap : Nat} {ys : List Int} (h : Row w g cap ys) : ∃ cur, Blk w g cur 22 ∧ RowC cur cap ys := h
theorem RowC.row {w : World} {g cap : Nat} {ys : List Int} {cur : Array Value} (h : RowC cur cap ys) (k : Blk w g cur 22) : Row w g cap ys := ⟨cur, k, h⟩

/-- One more word behind those that were laid in. -/
theorem splice_snoc (L : List Int) (off : Nat) (cs : List Int) (x : Int) (h : off + cs.length < L.length) : (splice L off cs).set (off + cs.length) x = splice L off (cs ++ [x]) := by
  apply List.ext_getElem?
  intro i
  rw [List.getElem?_set, length_splice _ _ _ (by omega), getElem?_splice _ _ _ _ (by omega), getElem?_splice _ _ _ _ (by rw [List.length_append, List.length_singleton]; omega), List.length_append, List.length_singleton]
  by_cases e : off + cs.length = i
  · subst e
    rw [if_pos rfl, if_pos (by omega), if_pos (by omega), Nat.add_sub_cancel_left]
    simp
  · rw [if_neg e]
    by_cases e2 : off ≤ i ∧ i < off + cs.length
    · rw [if_pos e2, if_pos (by omega), List.getElem?_append_left (by omega)]
    · rw [if_neg e2, if_neg (by omega)]

theorem splice_none (L : List Int) (off : Nat) : splice L off [] = L := by simp [splice]

theorem addr_add (g j : Nat) : (⟨g, 0, none⟩ : Addr).add j = ⟨g, j, none⟩ := by unfold Addr.add; split <;> simp_all

theorem Row.news {w : World} {g cap : Nat} {ys : List Int} (h : Row w g cap ys) : ∀ j u, (vals ys)[j]? = some u → w.cell? ((⟨g, 0, none⟩ : Addr).add j) = some u := by
  intro j u hj
  rw [addr_add]
  simp only [vals, List.getElem?_map, Option.map_eq_some_iff] at hj
  obtain ⟨y, hy, rfl⟩ := hj
  exact h.at_ hy

theorem vals_one (ys : List Int) : ∀ u ∈ vals ys, u.oneCell' = true := by
  intro u hu
  obtain ⟨y, _, rfl⟩ := List.mem_map.1 hu
  rfl

theorem unV_word (s p q y : Int) (g n o : Bool) (h : goodB s p q y = true) : unV (wordI s p q y g n o) = hdV s p q y g n o := by
  obtain ⟨f1, f2, f3, f4, f5, f6, f7⟩ := split_word s p q y g n o h
  rw [unV, f1, f2, f3, f4, f5, f6, f7]

/-- A block made since w0 that is none of those at hand. -/
def Apart (w0 : World) (a b : Nat) (rs : List (Nat × Array Value × Nat)) (g : Nat) : Prop := w0.heap.size ≤ g ∧ g ≠ a ∧ g ≠ b ∧ ∀ r ∈ rs, r.1 ≠ g

/-- And a row of words of its own. -/
def Two (w0 w : World) (a b : Nat) (vs : List Int) (rs : List (Nat × Array Value × Nat)) (g cap : Nat) (ys : List Int) : Prop := Ses w0 w a b vs rs ∧ Row w g cap ys ∧ Apart w0 a b rs g

section
variable {w0 w w' : World} {a b g cap : Nat} {ws vs ys : List Int} {rs : List (Nat × Array Value × Nat)}
theorem Two.keep (t : Two w0 w a b ws rs g cap ys) (h : Below w.heap.size w w') : Two w0 w' a b ws rs g cap ys := ⟨t.1.keep h, t.2.1.keep h, t.2.2⟩
theorem Two.step (t : Two w0 w a b ws rs g cap ys) (h : Now a b vs w w') : Two w0 w' a b vs rs g cap ys := ⟨t.1.step h, t.2.1.now h t.2.2.2.1 t.2.2.2.2.1, t.2.2⟩
theorem Two.set (t : Two w0 w a b ws rs g cap ys) (i : Nat) (y : Int) : Two w0 (w.setCell ⟨g, i, none⟩ (.int .u64 y)) a b ws rs g cap (ys.set i y) :=
  ⟨t.1.far (p := ⟨g, i, none⟩) t.2.2.1 t.2.2.2.1 t.2.2.2.2.1 t.2.2.2.2.2 _, t.2.1.set_ i y, t.2.2⟩
theorem Two.box (t : Two w0 w a b ws rs g cap ys) {cs : Array Value} {ty : Nat} : Two w0 (w.alloc (.cells cs ty)) a b ws ((w.heap.size, cs, ty) :: rs) g cap ys :=
  ⟨t.1.box, t.2.1.alloc _, t.2.2.1, t.2.2.2.1, t.2.2.2.2.1, fun r hr => by
    rcases List.mem_cons.1 hr with rfl | hr
    · have := t.2.1.lt
      simp only []
      omega
    · exact t.2.2.2.2.2 r hr⟩

/-- A copy of words behind an empty slice. -/
theorem Ses.copied {w4 : World} {v1 : Value} {m : Nat} (s : Ses w0 w a b vs rs) (hown : w4.ownsRow w0.heap.size 22 1 v1 m (vals ys)) (hm : m = ys.length) (hgrow : (w.alloc (.cells #[] 22)).grownBy w4 (some w.heap.size)) (hne : v1 ≠ .slice none 0 0)
    (hob : v1.ownBlock = some w.heap.size ∨ v1.ownBlock = some (w.heap.size + 1)) : ∃ g cap, v1 = .slice (some ⟨g, 0, none⟩) ys.length cap ∧ Two w0 w4 a b vs rs g cap ys := by
  obtain ⟨g, cap, rfl, hg, hr⟩ := row_of hm hown hne
  have hl := s.has.lt
  have hge : w.heap.size ≤ g := by
    simp only [Value.ownBlock, Option.some.injEq] at hob
    omega
  refine ⟨g, cap, rfl, (s.alloc _).grown hgrow s.old.size (by omega) (by omega) (fun r hr => by have := s.lt r hr; omega), hr, hg, by omega, by omega, fun r hr => by have := s.lt r hr; omega⟩
end
end Go.Proofs.Ythhbamllnacklaa
