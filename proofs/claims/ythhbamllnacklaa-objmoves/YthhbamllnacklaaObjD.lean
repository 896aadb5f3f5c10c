/- Slices of words that the statements make; words, filled, same. -/
import Derived.Test.YthhbamllnacklaaObjC
import Derived.Laws.AppendOwn
import Derived.Maps.AppendAt
import Derived.OwnWalk
import Derived.BigQuiet
namespace Go.Proofs.Ythhbamllnacklaa
open Go.RowKit

def vals (ys : List Int) : List Value := ys.map (Value.int .u64)

/-- Block g, of so many cells, begins with the words ys. -/
def Row (w : World) (g cap : Nat) (ys : List Int) : Prop :=
  ∃ cur, Blk w g cur 22 ∧ ys.length ≤ cap ∧ cap ≤ maxLen ∧ cur.size = cap ∧ cur.toList.take ys.length = vals ys

section
variable {w w' : World} {g cap : Nat} {ys : List Int}
theorem Row.lt (h : Row w g cap ys) : g < w.heap.size := by obtain ⟨_, hB, _⟩ := h; exact hB.lt
theorem Row.keep (h : Row w g cap ys) (b : Below w.heap.size w w') : Row w' g cap ys := by obtain ⟨cur, hB, r⟩ := h; exact ⟨cur, hB.keep b, r⟩
theorem Row.now (h : Row w g cap ys) {a b : Nat} {ws : List Int} (n : Now a b ws w w') (ha : g ≠ a) (hb : g ≠ b) : Row w' g cap ys := by obtain ⟨cur, hB, r⟩ := h; exact ⟨cur, n.blk hB ha hb, r⟩
theorem Row.alloc (h : Row w g cap ys) (o : Obj) : Row (w.alloc o) g cap ys := by obtain ⟨cur, hB, r⟩ := h; exact ⟨cur, hB.alloc o, r⟩
theorem Row.far (h : Row w g cap ys) {p : Addr} (hp : g ≠ p.block) (v : Value) : Row (w.setCell p v) g cap ys := by obtain ⟨cur, hB, r⟩ := h; exact ⟨cur, hB.far hp v, r⟩
theorem Row.at_ (h : Row w g cap ys) {i : Nat} {y : Int} (hy : ys[i]? = some y) : w.cell? ⟨g, i, none⟩ = some (.int .u64 y) := by
  obtain ⟨cur, hB, _, _, _, ht⟩ := h
  have hi : i < ys.length := (List.getElem?_eq_some_iff.1 hy).1
  have e : (vals ys)[i]? = some (.int .u64 y) := by simp [vals, hy]
  rw [hB.cell, ← e, ← ht, List.getElem?_take_of_lt hi, Array.getElem?_toList]
theorem Row.frozen (h : Row w g cap ys) (i : Nat) : w.frozen? ⟨g, i, none⟩ = false := by obtain ⟨_, hB, _⟩ := h; exact hB.frozen i
theorem Row.cap_le (h : Row w g cap ys) : ys.length ≤ cap := by obtain ⟨_, _, h, _⟩ := h; exact h
theorem Row.set_ (h : Row w g cap ys) (i : Nat) (y : Int) : Row (w.setCell ⟨g, i, none⟩ (.int .u64 y)) g cap (ys.set i y) := by
  obtain ⟨cur, hB, h1, h2, h3, ht⟩ := h
  refine ⟨_, hB.set_ i _, by rw [List.length_set]; exact h1, h2, by simpa using h3, ?_⟩
  rw [List.length_set, Array.toList_setIfInBounds, List.take_set, ht]
  simp [vals, List.map_set]
theorem Row.own (h : Row w g cap ys) {base : Nat} (hb : base ≤ g) : w.ownsRow base 22 1 (.slice (some ⟨g, 0, none⟩) ys.length cap) ys.length (vals ys) := by
  obtain ⟨cur, hB, h1, h2, h3, ht⟩ := h
  exact ⟨by simp [vals], .inr ⟨g, cap, cur, rfl, hb, hB, h1, h2, by rw [h3, Nat.mul_one], by rw [Nat.mul_one]; exact ht⟩⟩
theorem row_of {base : Nat} {v : Value} {n : Nat} (hn : n = ys.length) (h : w.ownsRow base 22 1 v n (vals ys)) (hv : v ≠ .slice none 0 0) : ∃ g cap, v = .slice (some ⟨g, 0, none⟩) ys.length cap ∧ base ≤ g ∧ Row w g cap ys := by
  subst hn
  rcases h.2 with ⟨e, _⟩ | ⟨g, cap, cur, e, hb, hB, h1, h2, h3, ht⟩
  · exact absurd e hv
  · rw [Nat.mul_one] at h3 ht
    exact ⟨g, cap, e, hb, cur, hB, h1, h2, h3, ht⟩
theorem row_nil (w : World) : Row (w.alloc (.cells #[] 22)) w.heap.size 0 [] := ⟨#[], Blk.new w _ _, Nat.le_refl _, Nat.zero_le _, rfl, rfl⟩
end

theorem Now.grown {w W w1 : World} {a b g : Nat} {ws : List Int} (n : Now a b ws w W) (hg : W.grownBy w1 (some g)) (hw : w.heap.size ≤ g) (hl : a < w.heap.size ∧ b < w.heap.size) : Now a b ws w w1 := by
  obtain ⟨c, i1, i2⟩ := n.is
  refine ⟨⟨c, (hg.block a i1.lt (by simp; omega)).trans i1, (hg.block b i2.lt (by simp; omega)).trans i2⟩, ?_⟩
  exact ⟨hg.os.trans n.frm.os, hg.tape.trans n.frm.tape, hg.output.trans n.frm.output, Nat.le_trans n.frm.size hg.size, fun k hk hn => (hg.block k (Nat.lt_of_lt_of_le hk n.frm.size) (by simp; omega)).trans (n.frm.block k hk hn)⟩

theorem take_snoc {α : Type} {cs : List α} {j : Nat} {c : α} (h : cs[j]? = some c) : cs.take (j + 1) = cs.take j ++ [c] := by
  rw [List.take_add_one, h]; rfl

set_option maxHeartbeats 4000000 in
set_option maxRecDepth 100000 in
theorem words_any (a b : Nat) (ws : List Int) (w : World) (h : Has w a b ws) (hl : ws.length ≤ 200) :
    Calls Try.prog 13 #[arP a] w fun e w' => ∃ g cap, e = .returned (.slice (some ⟨g, 0, none⟩) ws.length cap) ∧ w.heap.size ≤ g ∧ Row w' g cap ws ∧ Now a b ws w w' := by
  have HH := Lib.hid h
  have hlt := Lib.hid h.lt
  clear h
  obtain ⟨i0, hi, hz, hs, hb⟩ := info_parts info_u64
  have HI0 := Lib.hid (And.intro hi (And.intro hz (And.intro hs hb)))
  clear hi hz hs hb
  go_enter Try.func13, Try.ntmps13
  go_wp2_with fail
  go_loopw [3, 4] (fun s3 s4 wr => ∃ (j g cap : Nat), j ≤ ws.length ∧ s3 = .slice (some ⟨g, 0, none⟩) j cap ∧ s4 = .int .i64 j ∧ Hid (w.heap.size ≤ g ∧ Row wr g cap (ws.take j) ∧ Now a b ws w wr)) (fun _ s4 _ => ws.length - (intOf s4).toNat)
  case atStart => exact ⟨0, w.heap.size, 0, Nat.zero_le _, rfl, rfl, Lib.hid ⟨Nat.le_refl _, by rw [List.take_zero]; exact row_nil w, HH.out.now ((Below.refl _ _).alloc (Nat.le_refl _) _)⟩⟩
  case round =>
    obtain ⟨j, g, cap, hj, rfl, rfl, HS⟩ := hrel
    obtain ⟨c, hc⟩ := HS.out.2.2.is
    have HC := Lib.hid hc
    clear hc
    by_cases hlt' : j < ws.length
    · obtain ⟨x, hx⟩ : ∃ x, ws[j]? = some x := ⟨_, List.getElem?_eq_getElem hlt'⟩
      have HX := Lib.hid hx
      clear hx
      go_wp2_with fail
      refine (len_any _ _ _ _ _ HC.out).mono ?_
      rintro e w1 ⟨rfl, rfl⟩
      go_wp2_with fail
      refine (load_at _ _ _ _ _ HC.out (by omega) j x (by omega) (by exact HX.out)).mono ?_
      rintro e w1 ⟨rfl, t⟩
      have N1 := Lib.hid t.now
      have R1 := Lib.hid (HS.out.2.1.now N1.out (by have := HS.out.1; have := hlt.out; omega) (by have := HS.out.1; have := hlt.out; omega))
      have N2 := Lib.hid ((HS.out.2.2.trans N1.out).post ((Below.refl _ _).alloc (Nat.le_refl _) (.cells #[.int .u64 x] 22)))
      have hg := HS.out.1
      have O2 := Lib.hid ((R1.out.alloc (.cells #[.int .u64 x] 22)).own hg)
      have hbs := Lib.hid (show w.heap.size ≤ (w1.alloc (.cells #[.int .u64 x] 22)).heap.size from N2.out.frm.size)
      have hjl : (ws.take j).length = j := by rw [List.length_take]; omega
      rw [hjl] at O2
      have HJ := Lib.hid hjl
      clear t N1 R1 HS HC hjl
      go_wp2_with (first
        | (at_builtin; (refine wpList_append_own_at _ rfl _ _ 26 rfl w.heap.size 22 i0 (.int .u64 0) 1 8 Try.underlying26 HI0.out.1 HI0.out.2.1 HI0.out.2.2.1 HI0.out.2.2.2 rfl (by decide) _ _ _ rfl O2.out ⟨w1.heap.size, 0, none⟩ 1 1 [.int .u64 x] rfl rfl ?c1 ?c2 ?c3 ?c4 ?c5 ?_))
        | fail)
      case c1 => exact cell_one_new w1 _ 22
      case c2 => intro x hx; simp at hx; subst hx; rfl
      case c3 => unfold maxLen; omega
      case c4 => omega
      case c5 => exact hbs.out
      intro v1 w2 hown hgrow hne _
      have en : vals (ws.take j) ++ [.int .u64 x] = vals (ws.take (j + 1)) := by rw [take_snoc HX.out, vals, vals, List.map_append]; rfl
      have el : j + 1 = (ws.take (j + 1)).length := by rw [List.length_take]; omega
      rw [en] at hown
      obtain ⟨g1, cap1, e1, hg1, R3⟩ := row_of el hown hne
      rw [← el] at e1
      subst e1
      have N3 := Lib.hid (N2.out.grown hgrow hg hlt.out)
      have R3 := Lib.hid R3
      clear hown hgrow hne en el O2 N2 hbs
      go_wp2
      go_roundw
      case rel => exact ⟨j + 1, g1, cap1, by omega, rfl, by go_num, Lib.hid ⟨hg1, R3.out, N3.out⟩⟩
      case measure => simp [intOf]; omega
    · obtain rfl : j = ws.length := by omega
      go_wp2_with fail
      refine (len_any _ _ _ _ _ HC.out).mono ?_
      rintro e w1 ⟨rfl, rfl⟩
      go_wp2
      go_ret
      exact ⟨g, cap, rfl, HS.out.1, by have := HS.out.2.1; rw [List.take_length] at this; exact this, HS.out.2.2⟩

theorem below_drewN (w : World) (m : Nat) : Below w.heap.size w (w.drewN m) := ⟨rfl, rfl, rfl, Nat.le_refl _, fun _ _ => rfl⟩

set_option maxHeartbeats 4000000 in
set_option maxRecDepth 100000 in
theorem same_yes (g1 c1 g2 c2 n : Nat) (ys : List Int) (w : World) (h1 : Row w g1 c1 ys) (h2 : Row w g2 c2 ys) (hn : n = ys.length) (hl : n ≤ 200) :
    Calls Try.prog 12 #[.slice (some ⟨g1, 0, none⟩) n c1, .slice (some ⟨g2, 0, none⟩) n c2] w fun e w' => e = .returned (.bool true) ∧ Below w.heap.size w w' := by
  have H1 := Lib.hid h1
  have H2 := Lib.hid h2
  clear h1 h2
  go_enter Try.func12, Try.ntmps12
  go_wp2_with fail
  go_loopw [5] (fun s5 wr => ∃ (j : Nat), j ≤ n ∧ s5 = .int .i64 j ∧ Below w.heap.size w wr) (fun s5 _ => n - (intOf s5).toNat)
  case atStart => exact ⟨0, Nat.zero_le _, rfl, Below.refl _ _⟩
  case round =>
    obtain ⟨j, hj, rfl, bb⟩ := hrel
    by_cases hlt : j < n
    · obtain ⟨x, hx⟩ : ∃ x, ys[j]? = some x := ⟨_, List.getElem?_eq_getElem (by omega)⟩
      have x1 := (H1.out.keep bb).at_ hx
      have x2 := (H2.out.keep bb).at_ hx
      clear hx
      go_wp2_with fail
      go_quiet (fail)
      go_wp2
      go_roundw
      case rel => exact ⟨j + 1, by omega, by go_num, below_trans bb (below_drewN _ _)⟩
      case measure => simp [intOf]; omega
    · go_wp2
      go_ret
      exact ⟨rfl, bb⟩
end Go.Proofs.Ythhbamllnacklaa
