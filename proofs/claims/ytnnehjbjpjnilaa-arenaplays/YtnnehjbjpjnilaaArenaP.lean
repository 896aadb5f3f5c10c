/- What the walk of ArenaPlays needs: its acts, what holds from round to round, lists. -/
import Derived.Test.YtnnehjbjpjnilaaArenaE
import Derived.Test.YtnnehjbjpjnilaaLists
import Derived.Deep.DeepCutAuto
import Derived.Deep.CutBlock
import Derived.Maps.AppendAt
import Derived.BigRegion
import Derived.IntWalk
namespace Go.Proofs.Ytnnehjbjpjnilaa
open Go.RowKit

set_option maxHeartbeats 400000 in
theorem within_any (S : Nat) (x n : Int) (s1 : S ≤ 1048576) (w : World) :
    Calls Try.prog 10 #[.int .i64 S, .int .i64 x, .int .i64 n] w fun e w' => e = .returned (.bool (hasB S x n)) ∧ w = w' := by
  by_cases h : 0 ≤ n ∧ 0 ≤ x ∧ n ≤ S - x
  · obtain ⟨h1, h2, h3⟩ := h
    have h4 : x ≤ S := by omega
    have hh : hasB S x n = true := (hasB_iff ..).2 ⟨h1, h2, by omega⟩
    have HH := Lib.hid hh
    clear hh
    go_enter Try.func10, Try.ntmps10
    go_wp2
    go_ret
    exact ⟨by rw [HH.out]; rfl, rfl⟩
  · have hh : hasB S x n = false := (hasB_no ..).2 (by omega)
    have HH := Lib.hid hh
    clear hh
    by_cases h1 : 0 ≤ x
    · by_cases h2 : 0 ≤ n
      · by_cases h3 : x ≤ S
        · have h4 : ¬ n ≤ S - x := by omega
          clear h
          go_enter Try.func10, Try.ntmps10
          go_wp2
          go_ret
          exact ⟨by rw [HH.out]; rfl, rfl⟩
        · clear h
          go_enter Try.func10, Try.ntmps10
          go_wp2
          go_ret
          exact ⟨by rw [HH.out]; rfl, rfl⟩
      · clear h
        go_enter Try.func10, Try.ntmps10
        go_wp2
        go_ret
        exact ⟨by rw [HH.out]; rfl, rfl⟩
    · clear h
      go_enter Try.func10, Try.ntmps10
      go_wp2
      go_ret
      exact ⟨by rw [HH.out]; rfl, rfl⟩

/-- A slice of acts as it came in: nil let in. -/
def RdAct (w : World) (A : Option Addr) (n : Nat) : Prop :=
  ∀ i, i < n → ∃ ad x0 x1 x2 x3 x4, A = some ad ∧ ad.block < w.heap.size ∧ w.cell? (ad.add (i * 5)) = some (.int .i64 x0) ∧ w.cell? ⟨(ad.add (i * 5)).block, (ad.add (i * 5)).off + 1, none⟩ = some (.int .i64 x1) ∧
    w.cell? ⟨(ad.add (i * 5)).block, (ad.add (i * 5)).off + 2, none⟩ = some (.int .i64 x2) ∧ w.cell? ⟨(ad.add (i * 5)).block, (ad.add (i * 5)).off + 3, none⟩ = some (.int .i64 x3) ∧ w.cell? ⟨(ad.add (i * 5)).block, (ad.add (i * 5)).off + 4, none⟩ = some (.int .u64 x4) ∧
    -9223372036854775808 ≤ x1 ∧ x1 ≤ 9223372036854775807 ∧ -9223372036854775808 ≤ x2 ∧ x2 ≤ 9223372036854775807 ∧ -9223372036854775808 ≤ x3 ∧ x3 ≤ 9223372036854775807

theorem RdAct.at_ {w w' : World} {A : Option Addr} {n : Nat} (h : RdAct w A n) (hb : Below w.heap.size w w') {i : Nat} (hi : i < n) :
    ∃ ad x0 x1 x2 x3 x4, A = some ad ∧ w'.cell? (ad.add (i * 5)) = some (.int .i64 x0) ∧ w'.cell? ⟨(ad.add (i * 5)).block, (ad.add (i * 5)).off + 1, none⟩ = some (.int .i64 x1) ∧
    w'.cell? ⟨(ad.add (i * 5)).block, (ad.add (i * 5)).off + 2, none⟩ = some (.int .i64 x2) ∧ w'.cell? ⟨(ad.add (i * 5)).block, (ad.add (i * 5)).off + 3, none⟩ = some (.int .i64 x3) ∧ w'.cell? ⟨(ad.add (i * 5)).block, (ad.add (i * 5)).off + 4, none⟩ = some (.int .u64 x4) ∧
    -9223372036854775808 ≤ x1 ∧ x1 ≤ 9223372036854775807 ∧ -9223372036854775808 ≤ x2 ∧ x2 ≤ 9223372036854775807 ∧ -9223372036854775808 ≤ x3 ∧ x3 ≤ 9223372036854775807 := by
  obtain ⟨ad, x0, x1, x2, x3, x4, e, hl, c0, c1, c2, c3, c4, r⟩ := h i hi
  have k0 : w'.cell? (ad.add (i * 5)) = w.cell? (ad.add (i * 5)) := hb.cell (p := ad.add (i * 5)) (by rw [block_of_add]; exact hl)
  have k : ∀ j, w'.cell? ⟨(ad.add (i * 5)).block, j, none⟩ = w.cell? ⟨(ad.add (i * 5)).block, j, none⟩ := fun j => hb.cell (p := ⟨(ad.add (i * 5)).block, j, none⟩) (by rw [block_of_add]; exact hl)
  exact ⟨ad, x0, x1, x2, x3, x4, e, k0.trans c0, (k _).trans c1, (k _).trans c2, (k _).trans c3, (k _).trans c4, r⟩

theorem Blk.five {w : World} {b : Nat} {t : TypeId} {v0 v1 v2 v3 v4 : Value} (h : Blk w b #[v0, v1, v2, v3, v4] t) :
    w.cell? ⟨b, 0, none⟩ = some v0 ∧ w.cell? ⟨b, 1, none⟩ = some v1 ∧ w.cell? ⟨b, 2, none⟩ = some v2 ∧ w.cell? ⟨b, 3, none⟩ = some v3 ∧ w.cell? ⟨b, 4, none⟩ = some v4 :=
  ⟨h.cell 0, h.cell 1, h.cell 2, h.cell 3, h.cell 4⟩

theorem IsAr.far {w : World} {a b : Nat} {ws : List Int} {c : Int} (h : IsAr w a b ws c) {p : Addr} (ha : a ≠ p.block) (hb : b ≠ p.block) (u : Value) : IsAr (w.setCell p u) a b ws c :=
  ⟨h.1.far ha u, h.2.far hb u⟩

theorem splice_step {α : Type} (L : List α) (y : Nat) (cs : List α) (q : Nat) (v : α) (h : y + cs.length ≤ L.length) (hv : cs[q]? = some v) :
    (splice L y (cs.take q)).set (y + q) v = splice L y (cs.take (q + 1)) := by
  have hq : q < cs.length := (List.getElem?_eq_some_iff.1 hv).1
  apply List.ext_getElem?
  intro t
  rw [List.getElem?_set, getElem?_splice _ _ _ _ (by simp; omega), getElem?_splice _ _ _ _ (by simp; omega), length_splice _ _ _ (by simp; omega)]
  simp only [List.length_take, List.getElem?_take]
  by_cases e : y + q = t
  · subst e
    rw [if_pos rfl, if_pos (by omega), if_pos (by omega), if_pos (by omega), show y + q - y = q from by omega, hv]
  · rw [if_neg e]
    by_cases f : y ≤ t ∧ t < y + q
    · rw [if_pos (by omega), if_pos (by omega), if_pos (by omega), if_pos (by omega)]
    · rw [if_neg (by omega), if_neg (by omega)]

/-- The arena and the law's own words agree. -/
def PlayR (W wr : World) (g S i : Nat) (cnt : Int) : Prop :=
  ∃ ws, IsAr wr (W.heap.size + 1) W.heap.size ws cnt ∧ Blk wr g (u64s ws) 27 ∧ ws.length = S ∧ 0 ≤ cnt ∧ cnt ≤ 1000 * i ∧ W.heap.size + 1 < g ∧ Below W.heap.size W wr
/-- Behind an act: both errors are one, both counts are one. -/
def PlayE (W wx : World) (g S i : Nat) (e want cnt : Value) : Prop := ∃ E c : Int, e = .int .i64 E ∧ want = .int .i64 E ∧ cnt = .int .i64 c ∧ PlayR W wx g S (i + 1) c

theorem run_append_zero (b : Nat) (w : World) (ty : TypeId) (sp : Option Addr) (c : Nat) :
    (Builtin.append_ #[26, 26] ty #[.slice (some ⟨b, 0, none⟩) 0 0, .slice sp 0 c]).run Try.prog w = .ok (.slice (some ⟨b, 0, none⟩) 0 0) w := by
  obtain ⟨i, hi, _, _, _⟩ := info_parts info_u64
  cases sp <;> simp [Builtin.append_, run_underlying Try.underlying26, sizeOf, typeInfo, hi, Builtin.lenOf, Builtin.firstCells, storeCells, loadCells, loadCellsFrom]

theorem add_at (g p j : Nat) : (⟨g, p, none⟩ : Addr).add j = ⟨g, p + j, none⟩ := by unfold Addr.add; split <;> simp_all

theorem part_facts (w : World) (g p n : Nat) (ws : List Int) (hg : Blk w g (u64s ws) 27) (hl : p + n ≤ ws.length) (cs : List Int) (hcs : cs = (ws.drop p).take n) :
    (w.alloc (.cells #[] 27)).ownsRow w.heap.size 27 1 (.slice (some ⟨w.heap.size, 0, none⟩) 0 0) 0 [] ∧
    (cs.map (Value.int .u64)).length = (p + n - p) * 1 ∧
    (∀ j u, (cs.map (Value.int .u64))[j]? = some u → (w.alloc (.cells #[] 27)).cell? ((⟨g, p, none⟩ : Addr).add j) = some u) ∧
    (∀ u ∈ cs.map (Value.int .u64), u.oneCell' = true) ∧ w.heap.size ≤ (w.alloc (.cells #[] 27)).heap.size := by
  have hcl : cs.length = n := by rw [hcs]; simp; omega
  refine ⟨World.ownsRow_made w #[] 0 (Nat.le_refl _) (Nat.zero_le _) rfl, by rw [List.length_map, hcl]; omega, fun j u hu => ?_, fun v hv => ?_, by simp⟩
  · rw [add_at, (hg.alloc (.cells #[] 27)).cell (p + j)]
    have hjn : j < n := by have := (List.getElem?_eq_some_iff.1 hu).1; rw [List.length_map, hcl] at this; exact this
    rw [hcs, List.getElem?_map, List.getElem?_take, if_pos hjn, List.getElem?_drop] at hu
    simpa [u64s] using hu
  · obtain ⟨q, _, rfl⟩ := List.mem_map.1 hv
    rfl

/-- While the law's own words become the arena's. -/
def ZeroR (W wr : World) (g X : Nat) (ws ws' : List Int) (c : Int) (y : Nat) (cs : List Int) (q : Nat) (xs : Array Value) : Prop :=
  IsAr wr (W.heap.size + 1) W.heap.size ws' c ∧ Blk wr g (u64s (splice ws y (cs.take q))) 27 ∧ Blk wr X xs 29 ∧ Below W.heap.size W wr

theorem ZeroR.drew {W wr : World} {g X : Nat} {ws ws' : List Int} {c : Int} {y : Nat} {cs : List Int} {q : Nat} {xs : Array Value} (h : ZeroR W wr g X ws ws' c y cs q xs) : ZeroR W wr.drew g X ws ws' c y cs q xs :=
  ⟨⟨h.1.1.drew, h.1.2.drew⟩, h.2.1.drew, h.2.2.1.drew, h.2.2.2.drew⟩

theorem part_after {w w5 : World} {v5 : Value} {news : List Value} {n : Nat} (hn : 0 < n) (ho : w5.ownsRow w.heap.size 27 1 v5 n news) (hg : (w.alloc (.cells #[] 27)).grownBy w5 (Value.slice (some ⟨w.heap.size, 0, none⟩) 0 0).ownBlock) :
    ∃ h cap cur, v5 = .slice (some ⟨h, 0, none⟩) n cap ∧ n ≤ cap ∧ w.heap.size ≤ h ∧ Blk w5 h cur 27 ∧ (∀ (q : Nat) (x : Value), news[q]? = some x → cur[q]? = some x) ∧ Below w.heap.size w w5 := by
  obtain ⟨_, h0 | ⟨h, cap, cur, rfl, hb, hh, hc, _, _, ht⟩⟩ := ho
  · omega
  · refine ⟨h, cap, cur, rfl, hc, hb, hh, fun q x hx => ?_, ⟨hg.os, hg.tape, hg.output, Nat.le_trans (by simp) hg.size, fun k hk => ?_⟩⟩
    · rw [← ht, List.getElem?_take] at hx
      split at hx
      · simpa using hx
      · cases hx
    · rw [hg.block k (by simp; omega) (by simp [Value.ownBlock]; omega), Below.heap_alloc _ _ _ hk]

theorem splice_nil {α : Type} (L : List α) (y : Nat) : splice L y [] = L := by simp [splice]

def EndR (W wr : World) (g : Nat) (ws : List Int) : Prop := ∃ c, IsAr wr (W.heap.size + 1) W.heap.size ws c ∧ Blk wr g (u64s ws) 27 ∧ Below W.heap.size W wr

end Go.Proofs.Ytnnehjbjpjnilaa
