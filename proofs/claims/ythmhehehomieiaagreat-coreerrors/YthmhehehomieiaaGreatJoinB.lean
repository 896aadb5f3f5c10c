/- Texts of the layers below, joined: QTail RefU QuA RefV RefW RefX RefY PgA PgB PgC PgD PgE PgF RefP MatI ClassA ClassB MatA MatB MatM MatG. -/
import Derived.Test.YthmhehehomieiaaGreatJoinA
import Derived.StillTail
import Derived.Deep.Quiet
import Derived.BigQuiet
import Derived.Laws.MakeOwn
import Derived.OwnWalk
import Derived.ArgAppend
import Derived.Maps.AppendAt
import Derived.Deep.RegionLaw
import Derived.BigRegion
import Derived.Deep.RegionHeld3

/- Of no program: a region that draws its order, whose operations are quiet (they read, or call what reads and draws) but for a forced tail that may write: one walk in the order of the text serves. -/
namespace Go.Proofs.YthmhehehomieiaaGreat

section
variable {P : Program} {md : Region.Mode} {ops : Array Oper} {C : World → Prop}

/-- f operations more come up, each one of the first n and quiet, whichever is picked; then L. -/
def HeadQ (P : Program) (md : Region.Mode) (ops : Array Oper) (C : World → Prop) (n : Nat) (L : Array Bool → Act → Prop) : Nat → Array Bool → Act → Prop
  | 0, done, a => L done a
  | f + 1, done, a => Region.ready md ops done ≠ [] ∧ ∀ i ∈ Region.ready md ops done, i < n ∧ qOp P ops C i (HeadQ P md ops C n L f (done.setIfInBounds i true)) a

theorem HeadQ.any {n g : Nat} {L : Array Bool → Act → Prop} {Q : Exit → Act → World → Prop} (hL : ∀ done a w, C w → L done a → wpAny P md ops Q g done a w) (f : Nat) :
    ∀ done a w, C w → HeadQ P md ops C n L f done a → wpAny P md ops Q (f + g) done a w := by
  induction f with
  | zero => intro done a w hw h; rw [Nat.zero_add]; exact hL done a w hw h
  | succ f ih =>
    intro done a w hw h
    rw [Nat.succ_add]
    exact ⟨fun e => absurd e h.1, fun i hi => wpOp_of_qOp hw (fun a' w' hw' h' => ih _ a' w' hw' h') (h.2 i hi).2⟩

/-- An operation of the head that may come up now may be taken first. -/
theorem HeadQ.first {n i : Nat} {o : Oper} {v : Value} {L : Array Bool → Act → Prop} (ho : ops[i]? = some o) (sel : Region.noSelect ops = true)
    (sink : Region.sinkB md ops n = true) (chain : Region.chainB md ops n = true) (hn : n < ops.size) (hin : i < n) (last : ∀ done a, L done a → ∀ j ∈ Region.ready md ops done, n ≤ j) (f : Nat) :
    ∀ done a, HeadInv md ops n done →
      (∀ j oj, ops[j]? = some oj → j ≠ i → done.getD j true = false → (∀ e ∈ oj.after, Region.binds md e = true → e.on ≠ i) → o.apart ops oj = true) →
      i ∈ Region.ready md ops done → YieldsIn P ops C o v a → HeadQ P md ops C n L f (done.setIfInBounds i true) (a.put o.dst v) → HeadQ P md ops C n L (f + 1) done a := by
  induction f with
  | zero =>
    intro done a inv _ hr hy H
    refine ⟨List.ne_nil_of_mem hr, fun j hj => ?_⟩
    have hjn : j < n := Nat.lt_of_not_le fun h => tail_waits sink chain hn inv _ i rfl hin (mem_ready.1 hr).1 j h hj
    by_cases e : j = i
    · subst e; exact ⟨hjn, hy.qOp ho H⟩
    · have := last _ _ H j (ready_mono hj e)
      omega
  | succ f ih =>
    intro done a inv fr hr hy H
    refine ⟨List.ne_nil_of_mem hr, fun j hj => ?_⟩
    have hjn : j < n := Nat.lt_of_not_le fun h => tail_waits sink chain hn inv _ i rfl hin (mem_ready.1 hr).1 j h hj
    by_cases e : j = i
    · subst e; exact ⟨hjn, hy.qOp ho H⟩
    · obtain ⟨hju, oj, hoj, hall⟩ := mem_ready.1 hj
      have off : ∀ d ∈ oj.after, Region.binds md d = true → d.on ≠ i := fun d hd hb hon => by
        have h1 := hall d hd hb
        rw [hon, getD_both (mem_ready.1 hr).1] at h1
        cases h1
      have S := Region.noSelect_spec sel
      have h2 := qOp_put hoj (fr j oj hoj e hju off) (fun cs b => S i o cs b ho) (fun cs b => S j oj cs b hoj) hy (H.2 j (ready_mono hj e)).2
      refine ⟨hjn, qOp_mono (fun a' h3 => ih _ a' (inv.set hj hjn) (fun k ok hk hki hu hno => fr k ok hk hki ?_ hno) (ready_mono hr (Ne.symm e)) h3.1 ?_) h2⟩
      · by_cases ek : j = k
        · subst ek; exact hju
        · rwa [getD_set_ne true ek] at hu
      · rw [Array.setIfInBounds_comm _ _ e]
        exact h3.2

theorem HeadQ.lex {n g : Nat} {T : Act → Prop} (sel : Region.noSelect ops = true) (sink : Region.sinkB md ops n = true) (chain : Region.chainB md ops n = true) (hn : n < ops.size) (l : List Oper) :
    ∀ k done a, (∀ j, j < l.length → l[j]? = ops[k + j]?) → k + l.length = n → HeadInv md ops n done → Region.lexHead md ops g l.length k done = true → wpQuiet P ops C T l a →
      HeadQ P md ops C n (fun d a' => Region.seqB md ops g n d = true ∧ T a') l.length done a := by
  induction l with
  | nil =>
    intro k done a _ hk _ hB h
    obtain rfl : k = n := by simpa using hk
    exact ⟨by simpa [Region.lexHead] using hB, h⟩
  | cons o l ih =>
    intro k done a hl hk inv hB h
    have h0 : ops[k]? = some o := by simpa using (hl 0 (by simp)).symm
    have hkl : k + (l.length + 1) = n := hk
    have hkn : k < n := by omega
    simp only [List.length_cons, Region.lexHead, Bool.and_eq_true] at hB
    have hr : k ∈ Region.ready md ops done := by simpa using hB.1.1
    have hq : qOp P ops C k (wpQuiet P ops C T l) a := by unfold qOp; simp only [h0]; exact h
    obtain ⟨v, hy, hK⟩ := yieldsIn_of_qOp h0 hq
    refine HeadQ.first h0 sel sink chain hn hkn (fun d a' hL => seqB_ready hL.1) l.length done a inv (Region.free_spec h0 hB.1.2) hr hy (ih (k + 1) _ _ (fun j hj => ?_) (by omega) (inv.set hr hkn) hB.2 hK)
    have := hl (j + 1) (by simp; omega)
    simpa [Nat.add_assoc, Nat.add_comm 1 j] using this

/-- The region's head is walked quietly, its tail as it stands, in a world behind some draws. -/
theorem region_quiet_tail {id : Nat} {Q : Exit → Act → World → Prop} {a : Act} {w : World} {l : List Oper} (n : Nat) (hm : P.follows .mixedOrders = true) (hB : Region.lexTailB .any l.toArray n = true)
    (h : wpQuiet P l.toArray (fun w' => ∃ m, w' = w.drewN m) (fun a' => ∀ w', (∃ m, w' = w.drewN m) → wpList P l.toArray Q (l.drop n) a' w') (l.take n) a) : (Code.region id l.toArray true).wp P Q a w := by
  simp only [Region.lexTailB, Bool.and_eq_true, decide_eq_true_eq] at hB
  obtain ⟨⟨⟨⟨sel, hn⟩, sink⟩, chain⟩, lex⟩ := hB
  have hn' : n < l.length := by simpa using hn
  have e1 : (l.take n).length = n := by simp; omega
  have e2 : (l.drop n).length = l.toArray.size - n := by simp
  have inv : HeadInv .any l.toArray n (Array.replicate l.toArray.size false) :=
    ⟨by simp, fun j oj _ hj => (by rw [getD_replicate_false] at hj; cases hj), fun t _ ht => getD_in (by simpa using ht) (getD_replicate_false _ _)⟩
  have H := HeadQ.lex (g := l.toArray.size - n) sel sink chain hn (l.take n) 0 _ a (fun j hj => by
    have : j < n := by omega
    simp [this]) (by simpa using e1) inv (by rw [e1]; exact lex) h
  refine wp_region_any hm ?_
  have R := HeadQ.any (Q := Q) (g := l.toArray.size - n) (fun d a' w' hw' hL => by
    have := wpAny_of_seq (md := .any) (Q' := Q) (l.drop n) n d a' w' (fun j => by simp [List.getElem?_drop]) (by rw [e2]; exact hL.1) (hL.2 w' hw')
    rwa [e2] at this) _ _ _ { w with drawn := w.drawn + 1 } ⟨1, rfl⟩ H
  rw [e1, show n + (l.toArray.size - n) = l.toArray.size by omega] at R
  exact R
end
end Go.Proofs.YthmhehehomieiaaGreat

/- Contracts of the document's Cut, New and Pend. -/
namespace Go.Proofs.YthmhehehomieiaaGreat
open Go.RowKit


/-- Does a cell begin in page n? -/
def hasR (F G : Int) (cs : List Rc) (n : Int) : Bool := cs.any fun c => decide (ofI F G c.pos = n)

theorem hasB_snoc (F G : Int) (cs : List Rc) (c : Rc) (n : Int) : hasR F G (cs ++ [c]) n = (hasR F G cs n || decide (ofI F G c.pos = n)) := by
  simp [hasR]




end Go.Proofs.YthmhehehomieiaaGreat

/- A slice of ints that lies anywhere in a block of its own: read, cut at its front, appended to, copied; of no program's own functions. -/
namespace Go.Proofs.YthmhehehomieiaaGreat
open Go.RowKit

/-- The slice (A, n, c) holds xs; where it has an address, it lies within one block of ints. -/
structure Qu (w : World) (A : Option Addr) (n c : Nat) (xs : List Int) : Prop where
  len : xs.length = n
  le : n ≤ c
  max : c ≤ maxLen
  lies : (A = none ∧ c = 0) ∨ ∃ g off cs, A = some ⟨g, off, none⟩ ∧ Blk w g cs 3 ∧ off + c ≤ cs.size ∧ ∀ i x, xs[i]? = some x → cs[off + i]? = some (.int .i64 x)

/-- The block that a slice lies in. -/
def blkOf (A : Option Addr) : Option Nat := A.map Addr.block

def ints (ys : List Int) : List Value := ys.map (Value.int .i64)

theorem info_int : (Tryz.prog.info? 3).map (fun i => (i.zero, i.size, i.bytes)) = some (some (.int .i64 0), 1, 8) := by kernel_rfl

section
variable {w w' : World} {A : Option Addr} {n c : Nat} {xs : List Int}

theorem Qu.lt (h : Qu w A n c xs) {k : Nat} (hk : blkOf A = some k) : k < w.heap.size := by
  rcases h.lies with ⟨rfl, _⟩ | ⟨g, off, cs, rfl, hb, _⟩
  · cases hk
  · cases hk
    exact hb.lt

theorem Qu.frm {S : Nat → Prop} (h : Qu w A n c xs) (f : Frm S w w') (hs : ∀ k, blkOf A = some k → ¬ S k) : Qu w' A n c xs := by
  refine { h with lies := h.lies.imp id ?_ }
  rintro ⟨g, off, cs, rfl, hb, hr⟩
  exact ⟨g, off, cs, rfl, hb.frm f (hs g rfl), hr⟩

theorem Qu.keep (h : Qu w A n c xs) (f : Below w.heap.size w w') : Qu w' A n c xs := h.frm (S := fun _ => False) (Frm.of_below f) (fun _ _ e => e)

theorem Qu.nil (w : World) : Qu w none 0 0 [] := ⟨rfl, Nat.le_refl _, Nat.zero_le _, .inl ⟨rfl, rfl⟩⟩

theorem Qu.fresh (w : World) : Qu (w.alloc (.cells #[] 3)) (some ⟨w.heap.size, 0, none⟩) 0 0 [] :=
  ⟨rfl, Nat.le_refl _, Nat.zero_le _, .inr ⟨w.heap.size, 0, #[], rfl, Blk.new w _ _, Nat.le_refl _, fun i x hx => by simp at hx⟩⟩

theorem Qu.one (w : World) (x : Int) : Qu (w.alloc (.cells #[.int .i64 x] 3)) (some ⟨w.heap.size, 0, none⟩) 1 1 [x] :=
  ⟨rfl, Nat.le_refl _, by decide, .inr ⟨w.heap.size, 0, #[.int .i64 x], rfl, Blk.new w _ _, Nat.le_refl _, fun i y hy => by
    match i, hy with
    | 0, hy => simp at hy; subst hy; rfl⟩⟩

/-- Where it holds something, there is an address, and its numbers lie behind it. -/
theorem Qu.at_ (h : Qu w A n c xs) (hn : 0 < n) : ∃ g off, A = some ⟨g, off, none⟩ ∧ g < w.heap.size ∧ (∀ i x, xs[i]? = some x → w.cell? ⟨g, off + i, none⟩ = some (.int .i64 x)) ∧ (∀ i, w.frozen? ⟨g, i, none⟩ = false) := by
  rcases h.lies with ⟨_, hc⟩ | ⟨g, off, cs, rfl, hb, _, hx⟩
  · have := h.le; omega
  · exact ⟨g, off, rfl, hb.lt, fun i x hi => by rw [hb.cell]; exact hx i x hi, hb.frozen⟩

/-- Its front cut off: with room behind the first one, and without. -/
theorem Qu.tail {x : Int} {g off : Nat} (h : Qu w (some ⟨g, off, none⟩) (n + 1) c (x :: xs)) (hc : 1 < c) : Qu w (some ⟨g, off + 1, none⟩) n (c - 1) xs := by
  have hl : xs.length = n := by have := h.len; simpa using this
  refine ⟨hl, by have := h.le; omega, by have := h.max; omega, .inr ?_⟩
  rcases h.lies with ⟨e, _⟩ | ⟨g', off', cs, e, hb, hs, hx⟩
  · cases e
  · cases e
    exact ⟨g, off + 1, cs, rfl, hb, by omega, fun i y hy => by
      have := hx (i + 1) y (by simpa using hy)
      rwa [show off + (i + 1) = off + 1 + i by omega] at this⟩

theorem Qu.tail1 {x : Int} {g off : Nat} (h : Qu w (some ⟨g, off, none⟩) (n + 1) 1 (x :: xs)) : Qu w (some ⟨g, off, none⟩) 0 0 xs ∧ n = 0 := by
  have hl : xs.length = n := by have := h.len; simpa using this
  have hn : n = 0 := by have := h.le; omega
  subst hn
  refine ⟨⟨hl, Nat.le_refl _, Nat.zero_le _, .inr ?_⟩, rfl⟩
  rcases h.lies with ⟨e, _⟩ | ⟨g', off', cs, e, hb, hs, hx⟩
  · cases e
  · cases e
    exact ⟨g, off, cs, rfl, hb, by omega, fun i y hy => by rw [List.eq_nil_of_length_eq_zero hl] at hy; simp at hy⟩

theorem Qu.of_own {B : Nat} {v : Value} (hn : n ≠ 0) (h : w.ownsRow B 3 1 v n (ints xs)) : ∃ g cap, v = .slice (some ⟨g, 0, none⟩) n cap ∧ B ≤ g ∧ Qu w (some ⟨g, 0, none⟩) n cap xs := by
  obtain ⟨hl, hv⟩ := h
  rw [ints, List.length_map, Nat.mul_one] at hl
  rcases hv with ⟨_, e⟩ | ⟨g, cap, cur, e, hB, hg, hnc, hm, hs, ht⟩
  · exact absurd e hn
  · refine ⟨g, cap, e, hB, hl, hnc, hm, .inr ⟨g, 0, cur, rfl, hg, by omega, fun i x hx => ?_⟩⟩
    have hi : i < n := by have := (List.getElem?_eq_some_iff.1 hx).1; omega
    have e1 : (ints xs)[i]? = some (.int .i64 x) := by simp [ints, hx]
    rw [← ht, Nat.mul_one, List.getElem?_take_of_lt hi, Array.getElem?_toList] at e1
    rw [Nat.zero_add]
    exact e1
end

/-- What has turned: only the block that the slice lies in; the new slice lies there, too, or in a new block. -/
structure Grw (A A' : Option Addr) (w w' : World) : Prop where
  frm : Frm (fun k => blkOf A = some k) w w'
  at_ : ∀ k, blkOf A' = some k → blkOf A = some k ∨ w.heap.size ≤ k

theorem frm_none {S : Nat → Prop} {w w' : World} (h : w.grownBy w' none) : Frm S w w' := ⟨h.os, h.tape, h.output, h.size, fun k hk _ => h.block k hk (by simp)⟩

theorem below_none {w w' : World} (h : w.grownBy w' none) : Below w.heap.size w w' := ⟨h.os, h.tape, h.output, h.size, fun k hk => h.block k hk (by simp)⟩

/-- One more behind its last. -/
theorem Qu.append {w : World} {A : Option Addr} {n c : Nat} {xs : List Int} (h : Qu w A n c xs) (few : n ≤ 1048576) (x : Int) (ad : Addr) (k : Nat) (hc : w.cell? ad = some (.int .i64 x)) (ty : TypeId) :
    ∃ A' c' w', (Builtin.append_ #[39, 39] ty #[.slice A n c, .slice (some ad) 1 k]).run Tryz.prog w = .ok (.slice A' (n + 1) c') w' ∧ Qu w' A' (n + 1) c' (xs ++ [x]) ∧ Grw A A' w w' := by
  obtain ⟨i0, hi, hz, hs, hby⟩ := info_parts info_int
  have hl1 : [Value.int .i64 x].length = 1 * 1 := rfl
  have hnews : ∀ j u, [Value.int .i64 x][j]? = some u → w.cell? (ad.add j) = some u := by
    intro j u hj
    match j, hj with
    | 0, hj => simp at hj; subst hj; simpa [Addr.add] using hc
  have hone : ∀ u ∈ [Value.int .i64 x], u.oneCell' = true := by intro u hu; simp at hu; subst hu; rfl
  have hlx : (ints xs).length = n * 1 := by rw [ints, List.length_map, h.len]; omega
  have ea : ints xs ++ [.int .i64 x] = ints (xs ++ [x]) := by simp [ints]
  rcases h.lies with ⟨rfl, rfl⟩ | ⟨g, off, cs, rfl, hb, hsz, hx⟩
  · have hn : n = 0 := by have := h.le; omega
    subst hn
    obtain rfl : xs = [] := List.eq_nil_of_length_eq_zero h.len
    obtain ⟨v', w', hrun, r1, r2, _⟩ := run_append_own (P := Tryz.prog) w w.heap.size 39 ty 3 i0 (.int .i64 0) 1 8 Tryz.underlying39 hi hz hs hby rfl (by decide) (.slice none 0 0) 0 [] (World.ownsRow_nil w _ 3 1) ad 1 k [.int .i64 x] rfl hnews hone (by decide) (by decide) (Nat.le_refl _)
    obtain ⟨g', cap, rfl, hB, q⟩ := Qu.of_own (xs := [x]) (by omega) r1
    exact ⟨_, _, w', hrun, q, frm_none r2, fun k hk => by cases hk; exact .inr hB⟩
  · by_cases hr : n + 1 ≤ c
    · have hlt : off + n < cs.size := by omega
      have hrun := run_append_room_cells (P := Tryz.prog) w 39 ty 3 i0 Tryz.underlying39 hi g off n c ad 1 k [.int .i64 x] (by rw [hs]; rfl) hnews hone hr
        (fun j hj => by
          obtain rfl : j = 0 := by simpa using hj
          rw [hs, hb.cell]; simp [hlt]) (fun j hj => hb.frozen _)
      rw [hs, Nat.mul_one] at hrun
      refine ⟨_, _, _, hrun, ⟨by rw [List.length_append, h.len]; rfl, hr, h.max, .inr ⟨g, off, _, rfl, hb.set_ (off + n) (.int .i64 x), by simpa using hsz, fun i y hy => ?_⟩⟩, (show Frm (fun k => blkOf (some ⟨g, off, none⟩) = some k) w (w.setCell ⟨g, off + n, none⟩ (.int .i64 x)) from Frm.setCell (S := fun k => blkOf (some ⟨g, off, none⟩) = some k) (Frm.refl _ _) (p := ⟨g, off + n, none⟩) (fun _ => rfl) _), fun k hk => .inl hk⟩
      rw [Array.getElem?_setIfInBounds]
      by_cases hin : i < n
      · rw [List.getElem?_append_left (by rw [h.len]; exact hin)] at hy
        rw [if_neg (by omega)]
        exact hx i y hy
      · rw [List.getElem?_append_right (by rw [h.len]; omega), h.len] at hy
        have e0 : i - n = 0 := by have := (List.getElem?_eq_some_iff.1 hy).1; simp at this; omega
        rw [e0] at hy
        simp at hy
        subst hy
        rw [if_pos (by omega), if_pos (by omega)]
    · obtain ⟨v', w', hrun, r1, r2⟩ := run_append_arg_grows (P := Tryz.prog) w 39 ty 3 i0 (.int .i64 0) 1 8 Tryz.underlying39 hi hz hs hby rfl (by decide) ⟨g, off, none⟩ n c (ints xs) hlx
        (fun j u hj => by
          rw [Addr.add_lit, hb.cell]
          rw [ints, List.getElem?_map] at hj
          cases e : xs[j]? with
          | none => rw [e] at hj; cases hj
          | some y => rw [e] at hj; cases hj; exact hx j y e)
        ad 1 k [.int .i64 x] rfl hnews (by omega) (by unfold maxLen; omega) (by omega)
      rw [ea] at r1
      obtain ⟨g', cap, rfl, hB, q⟩ := Qu.of_own (by omega) r1
      exact ⟨_, _, w', hrun, q, frm_none r2, fun k hk => by cases hk; exact .inr hB⟩

/-- All of it appended to its front, cut off with its room: a copy. -/
theorem Qu.copy {w : World} {A : Option Addr} {n c : Nat} {xs : List Int} (h : Qu w A n c xs) (few : n ≤ 1048576) (ty : TypeId) :
    ∃ A' c' w', (Builtin.append_ #[39, 39] ty #[.slice A 0 0, .slice A n c]).run Tryz.prog w = .ok (.slice A' n c') w' ∧ Qu w' A' n c' xs ∧ Below w.heap.size w w' ∧ (0 < n → ∀ k, blkOf A' = some k → w.heap.size ≤ k) := by
  obtain ⟨i0, hi, hz, hs, hby⟩ := info_parts info_int
  by_cases hn : n = 0
  · subst hn
    have hx0 : xs = [] := List.eq_nil_of_length_eq_zero h.len
    subst hx0
    refine ⟨A, 0, w, ?_, ⟨rfl, Nat.le_refl _, Nat.zero_le _, ?_⟩, Below.refl _ _, fun h0 => absurd h0 (by omega)⟩
    · cases A <;> simp [Builtin.append_, run_underlying Tryz.underlying39, sizeOf, typeInfo, hi, Builtin.lenOf, Builtin.firstCells, storeCells, loadCells, loadCellsFrom]
    · rcases h.lies with ⟨rfl, rfl⟩ | ⟨g, off, cs, rfl, hb, hsz, hx⟩
      · exact .inl ⟨rfl, rfl⟩
      · exact .inr ⟨g, off, cs, rfl, hb, by omega, hx⟩
  · rcases h.lies with ⟨rfl, rfl⟩ | ⟨g, off, cs, rfl, hb, hsz, hx⟩
    · exact absurd h.le (by omega)
    · have hnews : ∀ j u, (ints xs)[j]? = some u → w.cell? ((⟨g, off, none⟩ : Addr).add j) = some u := by
        intro j u hj
        rw [Addr.add_lit, hb.cell]
        rw [ints, List.getElem?_map] at hj
        cases e : xs[j]? with
        | none => rw [e] at hj; cases hj
        | some y => rw [e] at hj; cases hj; exact hx j y e
      obtain ⟨v', w', hrun, r1, r2⟩ := run_append_arg_grows (P := Tryz.prog) w 39 ty 3 i0 (.int .i64 0) 1 8 Tryz.underlying39 hi hz hs hby rfl (by decide) ⟨g, off, none⟩ 0 0 [] rfl
        (fun j u hj => by simp at hj) ⟨g, off, none⟩ n c (ints xs) (by rw [ints, List.length_map, h.len]; omega) hnews (by omega) (by unfold maxLen; omega) (by omega)
      rw [Nat.zero_add, List.nil_append] at r1
      obtain ⟨g', cap, rfl, hB, q⟩ := Qu.of_own hn r1
      exact ⟨_, _, w', hrun, q, below_none r2, fun _ k hk => by cases hk; exact hB⟩

/-- .. at the operation, for the walk. -/
theorem wpList_append_qu (w : World) {ops : Array Oper} {rest : List Oper} {o : Oper} {a : Act} {Q : Exit → Act → World → Prop} (hgd : o.guard = none) (s x : Operand)
    (ho : o.op = .call { callee := .builtin .append, args := #[s, x], argTypes := #[39, 39] }) {A : Option Addr} {n c : Nat} {xs : List Int} (h : Qu w A n c xs) (few : n ≤ 1048576) (y : Int) (ad : Addr) (k : Nat)
    (hs : a.eval s = .slice A n c) (hx : a.eval x = .slice (some ad) 1 k) (hc : w.cell? ad = some (.int .i64 y))
    (hK : ∀ A' c' w', Qu w' A' (n + 1) c' (xs ++ [y]) → Grw A A' w w' → wpList Tryz.prog ops Q rest (a.put o.dst (.slice A' (n + 1) c')) w') : wpList Tryz.prog ops Q (o :: rest) a w := by
  refine wpList_plain hgd fun K hK' => ?_
  obtain ⟨A', c', w', hrun, q, g⟩ := h.append few y ad k hc o.type
  unfold Oper.wp execOp
  simp only [ho, resolve, invoke, builtin, Sem.run_bind, Sem.run_pure, Result.andThen_ok, List.map_toArray, List.map_cons, List.map_nil, hs, hx, hrun]
  exact hK' _ _ (hK A' c' w' q g)

theorem wpList_copy_qu (w : World) {ops : Array Oper} {rest : List Oper} {o : Oper} {a : Act} {Q : Exit → Act → World → Prop} (hgd : o.guard = none) (s x : Operand)
    (ho : o.op = .call { callee := .builtin .append, args := #[s, x], argTypes := #[39, 39] }) {A : Option Addr} {n c : Nat} {xs : List Int} (h : Qu w A n c xs) (few : n ≤ 1048576)
    (hs : a.eval s = .slice A 0 0) (hx : a.eval x = .slice A n c)
    (hK : ∀ A' c' w', Qu w' A' n c' xs → Below w.heap.size w w' → (0 < n → ∀ k, blkOf A' = some k → w.heap.size ≤ k) → wpList Tryz.prog ops Q rest (a.put o.dst (.slice A' n c')) w') : wpList Tryz.prog ops Q (o :: rest) a w := by
  refine wpList_plain hgd fun K hK' => ?_
  obtain ⟨A', c', w', hrun, q, g, hf⟩ := h.copy few o.type
  unfold Oper.wp execOp
  simp only [ho, resolve, invoke, builtin, Sem.run_bind, Sem.run_pure, Result.andThen_ok, List.map_toArray, List.map_cons, List.map_nil, hs, hx, hrun]
  exact hK' _ _ (hK A' c' w' q g hf)
end Go.Proofs.YthmhehehomieiaaGreat

/- Contract of the document's Starts: the places of what is in use, in a part, in order. -/
namespace Go.Proofs.YthmhehehomieiaaGreat
open Go.RowKit

def inR (f t : Int) (c : Rc) : Bool := c.used && decide (f ≤ c.pos) && decide (c.pos < t)

theorem ints_length (ys : List Int) : (ints ys).length = ys.length := by simp [ints]

/-- v is a slice of a block made since base, which holds ys. -/
def OwnI (w : World) (base : Nat) (v : Value) (ys : List Int) : Prop := w.ownsRow base 3 1 v ys.length (ints ys)

theorem OwnI.at_ {w : World} {base : Nat} {v : Value} {ys : List Int} (h : OwnI w base v ys) : ∃ ao cap, v = .slice ao ys.length cap ∧ ∀ (i : Nat) (y : Int), ys[i]? = some y → ∃ g, ao = some ⟨g, 0, none⟩ ∧ base ≤ g ∧ g < w.heap.size ∧ (∀ (j : Nat) (z : Int), ys[j]? = some z → w.cell? ⟨g, j, none⟩ = some (.int .i64 z)) ∧ (∀ k, w.frozen? ⟨g, k, none⟩ = false) := by
  rcases h.2 with ⟨rfl, h0⟩ | ⟨g, cap, cur, rfl, hb, hg, hn, hm, hs, ht⟩
  · refine ⟨none, 0, by rw [h0], fun i c hi => ?_⟩
    obtain ⟨hh, _⟩ := List.getElem?_eq_some_iff.1 hi
    omega
  · have hB : Blk w g cur 3 := hg
    refine ⟨some ⟨g, 0, none⟩, cap, rfl, fun i c hi => ⟨g, rfl, hb, hB.lt, fun j z hj => ?_, hB.frozen⟩⟩
    have hjl : j < ys.length := (List.getElem?_eq_some_iff.1 hj).1
    have e : (ints ys)[j]? = some (.int .i64 z) := by simp [ints, hj]
    rw [hB.cell, ← e, ← ht, List.getElem?_take_of_lt (by omega), Array.getElem?_toList]

theorem OwnI.set_ {w : World} {base g cap n : Nat} {ys : List Int} (h : OwnI w base (.slice (some ⟨g, 0, none⟩) n cap) ys) (i : Nat) (y : Int) :
    OwnI (w.setCell ⟨g, i, none⟩ (.int .i64 y)) base (.slice (some ⟨g, 0, none⟩) n cap) (ys.set i y) := by
  rcases h.2 with ⟨e, _⟩ | ⟨g', cap', cur, e, hb, hg, hn, hm, hs, ht⟩
  · cases e
  · cases e
    have hB : Blk w g cur 3 := hg
    refine ⟨by simp [ints], .inr ⟨g, cap, cur.setIfInBounds i (.int .i64 y), by rw [List.length_set], hb, hB.set_ i _, by rw [List.length_set]; exact hn, hm, by simpa using hs, ?_⟩⟩
    rw [List.length_set, Array.toList_setIfInBounds, List.take_set, ht]
    simp [ints, List.map_set]

theorem OwnI.below {w w' : World} {base : Nat} {v : Value} {ys : List Int} (h : OwnI w base v ys) (b : Below w.heap.size w w') : OwnI w' base v ys := by
  refine ⟨h.1, h.2.imp id ?_⟩
  rintro ⟨g, cap, cur, e1, e2, e3, e4⟩
  exact ⟨g, cap, cur, e1, e2, (b.block g (Array.getElem?_eq_some_iff.1 e3).1).trans e3, e4⟩

/-- A list that is sorted but for one place. -/
theorem place_end {A B : List Int} {x : Int} (hs : (A ++ B).Pairwise (· ≤ ·)) (hb : ∀ b ∈ B, x ≤ b) (ha : ∀ y, A.getLast? = some y → y ≤ x) : (A ++ x :: B).Pairwise (· ≤ ·) := by
  rw [List.pairwise_append] at hs ⊢
  obtain ⟨h1, h2, h3⟩ := hs
  have hA : ∀ a ∈ A, a ≤ x := by
    rcases List.eq_nil_or_concat A with rfl | ⟨A', y, rfl⟩
    · intro a ha; simp at ha
    · have hy := ha y (by simp)
      intro a ham
      rw [List.concat_eq_append] at h1 ham
      rw [List.pairwise_append] at h1
      rcases List.mem_append.1 ham with h | h
      · exact Int.le_trans (h1.2.2 a h y (by simp)) hy
      · obtain rfl : a = y := by simpa using h
        exact hy
  refine ⟨h1, List.pairwise_cons.2 ⟨hb, h2⟩, fun a ha' b hb' => ?_⟩
  rcases List.mem_cons.1 hb' with rfl | h
  · exact hA a ha'
  · exact Int.le_trans (hA a ha') (hb b h)

theorem below_grown {w W w1 : World} {v : Value} {e : TypeId} {k n : Nat} {xs : List Value} (b : Below w.heap.size w W) (ho : W.ownsRow w.heap.size e k v n xs) (hg : W.grownBy w1 v.ownBlock) : Below w.heap.size w w1 :=
  b.trans ⟨hg.os, hg.tape, hg.output, hg.size, fun i hi => hg.block i (Nat.lt_of_lt_of_le hi b.size) fun e => by
    have := (ho.lt i e.symm).1
    omega⟩

theorem own_nil (w : World) : OwnI (w.alloc (.cells #[] 3)) w.heap.size (.slice (some ⟨w.heap.size, 0, none⟩) 0 0) [] :=
  ⟨rfl, .inr ⟨w.heap.size, 0, #[], rfl, Nat.le_refl _, Blk.new w _ _, Nat.le_refl _, Nat.zero_le _, rfl, rfl⟩⟩

theorem filter_snoc {cs : List Rc} {j : Nat} {c : Rc} (h : cs[j]? = some c) (f t : Int) : ((cs.take (j + 1)).filter (inR f t)).map Rc.pos = ((cs.take j).filter (inR f t)).map Rc.pos ++ (if inR f t c then [c.pos] else []) := by
  rw [take_snoc h, List.filter_append, List.map_append]
  congr 1
  cases e : inR f t c <;> simp [e]

theorem OwnI.snoc {w : World} {base : Nat} {v : Value} {ys : List Int} {x : Int} (h : w.ownsRow base 3 1 v (ys.length + 1) (ints ys ++ [.int .i64 x])) : OwnI w base v (ys ++ [x]) := by
  unfold OwnI
  rw [List.length_append, List.length_singleton, show ints (ys ++ [x]) = ints ys ++ [.int .i64 x] from by simp [ints]]
  exact h

theorem get_mid (A B : List Int) (y x : Int) : ((A ++ [y]) ++ x :: B)[A.length]? = some y ∧ ((A ++ [y]) ++ x :: B)[A.length + 1]? = some x := by
  constructor
  · simp
  · rw [List.getElem?_append_right (by simp)]; simp

theorem set_mid (A B : List Int) (y x : Int) : (((A ++ [y]) ++ x :: B).set A.length x).set (A.length + 1) y = A ++ x :: y :: B := by
  simp

theorem starts_done {ys A B L M : List Int} {x : Int} (hAB : ys = A ++ B) (h : ys.Pairwise (· ≤ ·) ∧ ys.Perm L) (hb : ∀ b ∈ B, x ≤ b) (ha : ∀ y, A.getLast? = some y → y ≤ x) (hM : M = L ++ [x]) :
    (A ++ x :: B).Pairwise (· ≤ ·) ∧ (A ++ x :: B).Perm M := by
  subst hAB hM
  refine ⟨place_end h.1 hb ha, ?_⟩
  refine List.Perm.trans List.perm_middle ?_
  exact (List.Perm.cons x h.2).trans (List.perm_append_singleton x L).symm

end Go.Proofs.YthmhehehomieiaaGreat

/- Contract of the document's Give. -/
namespace Go.Proofs.YthmhehehomieiaaGreat
open Go.RowKit

theorem rcV_set (cs : List Rc) (i : Nat) (c : Rc) (x : Bool) (h : cs[i]? = some c) : rcV (cs.set i { c with used := x }) = (rcV cs).set (i * 4 + 2) (.bool x) := by
  induction cs generalizing i with
  | nil => simp at h
  | cons d cs ih =>
    cases i with
    | zero =>
      obtain rfl : d = c := by simpa using h
      simp [rcV, Rc.vs]
    | succ i =>
      have := ih i (by simpa using h)
      simp only [rcV, List.set_cons_succ, List.flatMap_cons] at this ⊢
      rw [this, List.set_append_right _ _ (by simp [Rc.vs]; omega)]
      congr 2
      simp [Rc.vs]
      omega


/-- Is something in use that begins in page n? -/
def someB (F G n : Int) (cs : List Rc) : Bool := cs.any fun c => decide (ofI F G c.pos = n) && c.used

theorem someB_snoc (F G n : Int) (cs : List Rc) (c : Rc) : someB F G n (cs ++ [c]) = (someB F G n cs || (decide (ofI F G c.pos = n) && c.used)) := by simp [someB]

def otherB (F G n : Int) (c : Rc) : Bool := !decide (ofI F G c.pos = n)

/-- What is left of the cells when something is given back. -/
def giveC (F G n : Int) (cs : List Rc) : List Rc := match cs.findIdx? (hitB n) with
  | none => cs
  | some i =>
    let ds := cs.modify i fun c => { c with used := false }
    if someB F G (ofI F G n) ds then ds else ds.filter (otherB F G (ofI F G n))

def giveP (F G n : Int) (cs : List Rc) (ps : List Bool) : List Bool := match cs.findIdx? (hitB n) with
  | none => ps
  | some i => if someB F G (ofI F G n) (cs.modify i fun c => { c with used := false }) then ps else ps.set (ofI F G n).toNat false


theorem rcV_snoc (cs : List Rc) (c : Rc) : rcV (cs ++ [c]) = rcV cs ++ c.vs := by simp [rcV]

theorem modify_set {α : Type} (cs : List α) (i : Nat) (c : α) (f : α → α) (h : cs[i]? = some c) : cs.modify i f = cs.set i (f c) := by
  induction cs generalizing i with
  | nil => simp at h
  | cons d cs ih =>
    cases i with
    | zero => obtain rfl : d = c := by simpa using h
              rfl
    | succ i => simpa using ih i (by simpa using h)


theorem cell_news (w : World) (c : Rc) (t : TypeId) : ∀ j u, c.vs[j]? = some u → (w.alloc (.cells #[.int .i64 c.pos, .int .i64 c.words, .bool c.used, .bool c.large] t)).cell? ((⟨w.heap.size, 0, none⟩ : Addr).add j) = some u := by
  intro j u hj
  have e : (⟨w.heap.size, 0, none⟩ : Addr).add j = ⟨w.heap.size, j, none⟩ := by
    unfold Addr.add
    by_cases h : j = 0
    · subst h; simp
    · simp [h]
  rw [e, (Blk.new w _ _).cell, ← hj]
  simp [Rc.vs]

theorem vs_one (c : Rc) : ∀ u ∈ c.vs, u.oneCell' = true := by
  intro u hu
  simp only [Rc.vs, List.mem_cons, List.not_mem_nil, or_false] at hu
  rcases hu with rfl | rfl | rfl | rfl <;> rfl

theorem other_snoc {ds : List Rc} {k : Nat} {d : Rc} (h : ds[k]? = some d) (F G q : Int) : (ds.take (k + 1)).filter (otherB F G q) = (ds.take k).filter (otherB F G q) ++ (if otherB F G q d then [d] else []) := by
  rw [take_snoc h, List.filter_append]
  congr 1
  cases e : otherB F G q d <;> simp [e]

theorem ownsRow_base {w : World} {B : Nat} {e : TypeId} {k : Nat} {v : Value} {n : Nat} {xs : List Value} (h : w.ownsRow B e k v n xs) : w.ownsRow 0 e k v n xs := by
  refine ⟨h.1, h.2.imp id ?_⟩
  rintro ⟨g, cap, cur, e1, _, e3⟩
  exact ⟨g, cap, cur, e1, Nat.zero_le _, e3⟩

theorem ownsRow_below {w w' : World} {B : Nat} {e : TypeId} {k : Nat} {v : Value} {n : Nat} {xs : List Value} (h : w.ownsRow B e k v n xs) (b : Below w.heap.size w w') : w'.ownsRow B e k v n xs := by
  refine ⟨h.1, h.2.imp id ?_⟩
  rintro ⟨g, cap, cur, e1, e2, e3, e4⟩
  exact ⟨g, cap, cur, e1, e2, (b.block g (Array.getElem?_eq_some_iff.1 e3).1).trans e3, e4⟩

theorem row_nil (w : World) (t : TypeId) (k : Nat) : (w.alloc (.cells #[] t)).ownsRow w.heap.size t k (.slice (some ⟨w.heap.size, 0, none⟩) 0 0) 0 [] :=
  ⟨by simp, .inr ⟨w.heap.size, 0, #[], rfl, Nat.le_refl _, Blk.new w _ _, Nat.le_refl _, Nat.zero_le _, by simp, by simp⟩⟩

theorem ownsRow_form {w : World} {B : Nat} {e : TypeId} {k : Nat} {v : Value} {n : Nat} {xs : List Value} (h : w.ownsRow B e k v n xs) : ∃ ao cap, v = .slice ao n cap := by
  rcases h.2 with ⟨rfl, rfl⟩ | ⟨g, cap, cur, rfl, _⟩
  · exact ⟨none, 0, rfl⟩
  · exact ⟨_, cap, rfl⟩

/-- What the document's space may turn. -/
def Rf (a pb : Nat) (v : Value) (k : Nat) : Prop := k = a ∨ k = pb ∨ v.ownBlock = some k

end Go.Proofs.YthmhehehomieiaaGreat

/- Contract of the document's Take: of nothing, and of what is large. -/
namespace Go.Proofs.YthmhehehomieiaaGreat
open Go.RowKit



theorem grown_frm {W w1 : World} {a pb : Nat} {v : Value} (hg : W.grownBy w1 v.ownBlock) : Frm (Rf a pb v) W w1 :=
  ⟨hg.os, hg.tape, hg.output, hg.size, fun k hk hn => hg.block k hk fun e => hn (Or.inr (Or.inr e.symm))⟩



/-- Are C pages from p on free? -/
def runB (F G : Int) (cs : List Rc) (p C : Nat) : Bool := (List.range C).all fun k => freeB F G cs ((p + k : Nat) : Int)

/-- What Take of something large does: the first pages side by side that are free. -/
def TakeL (F G : Int) (N : Nat) (cs : List Rc) (C : Nat) (e : Value) (cs' : List Rc) : Prop :=
  (∃ p, p + C ≤ N ∧ runB F G cs p C = true ∧ (∀ q, q < p → runB F G cs q C = false) ∧ e = .tuple #[.int .i64 (F + p * G), .bool true] ∧ cs' = cs ++ [⟨F + p * G, C * G, true, true⟩]) ∨
  ((∀ q, q + C ≤ N → runB F G cs q C = false) ∧ e = .tuple #[.int .i64 0, .bool false] ∧ cs' = cs)


theorem runB_succ (F G : Int) (cs : List Rc) (p k : Nat) : runB F G cs p (k + 1) = (runB F G cs p k && freeB F G cs ((p + k : Nat) : Int)) := by
  simp [runB, List.range_succ]

end Go.Proofs.YthmhehehomieiaaGreat

/- Contract of the document's Take of what is not large. -/
namespace Go.Proofs.YthmhehehomieiaaGreat
open Go.RowKit

/-- A cell of a block of that size which is not in use, in a page that is not pending. -/
def candB (F G : Int) (ps : List Bool) (s : Int) (c : Rc) : Bool := !c.used && !c.large && decide (c.words = s) && !((ps[(ofI F G c.pos).toNat]?).getD false)

/-- The first of them among the first j, as the loop knows it. -/
def Best (F G : Int) (ps : List Bool) (s : Int) (cs : List Rc) (j : Nat) (b : Int) : Prop :=
  (b = -1 ∧ ∀ (i : Nat) c, i < j → cs[i]? = some c → candB F G ps s c = false) ∨
  (∃ (k : Nat) (c : Rc), b = k ∧ cs[k]? = some c ∧ candB F G ps s c = true ∧ ∀ (i : Nat) d, i < j → cs[i]? = some d → candB F G ps s d = true → c.pos ≤ d.pos)

theorem Best.skip {F G : Int} {ps : List Bool} {s : Int} {cs : List Rc} {j : Nat} {b : Int} {c : Rc} (h : Best F G ps s cs j b) (hc : cs[j]? = some c) (hn : candB F G ps s c = false) : Best F G ps s cs (j + 1) b := by
  rcases h with ⟨h0, h1⟩ | ⟨k, d, h0, h1, h2, h3⟩
  · refine Or.inl ⟨h0, fun i x hi hx => ?_⟩
    by_cases e : i = j
    · subst e; obtain rfl : c = x := by have := hc.symm.trans hx; simpa using this
      exact hn
    · exact h1 i x (by omega) hx
  · refine Or.inr ⟨k, d, h0, h1, h2, fun i x hi hx hcx => ?_⟩
    by_cases e : i = j
    · subst e; obtain rfl : c = x := by have := hc.symm.trans hx; simpa using this
      rw [hn] at hcx; cases hcx
    · exact h3 i x (by omega) hx hcx

theorem Best.first {F G : Int} {ps : List Bool} {s : Int} {cs : List Rc} {j : Nat} {c : Rc} (h : Best F G ps s cs j (-1)) (hc : cs[j]? = some c) (hy : candB F G ps s c = true) : Best F G ps s cs (j + 1) j := by
  rcases h with ⟨_, h1⟩ | ⟨k, d, h0, _⟩
  · refine Or.inr ⟨j, c, rfl, hc, hy, fun i x hi hx hcx => ?_⟩
    by_cases e : i = j
    · subst e; obtain rfl : c = x := by have := hc.symm.trans hx; simpa using this
      exact Int.le_refl _
    · rw [h1 i x (by omega) hx] at hcx; cases hcx
  · omega

theorem Best.less {F G : Int} {ps : List Bool} {s : Int} {cs : List Rc} {j k : Nat} {c d : Rc} (h : Best F G ps s cs j (k : Int)) (hd : cs[k]? = some d) (hc : cs[j]? = some c) (hy : candB F G ps s c = true) (lt : c.pos < d.pos) : Best F G ps s cs (j + 1) j := by
  rcases h with ⟨h0, _⟩ | ⟨k', d', h0, h1, h2, h3⟩
  · omega
  · obtain rfl : k = k' := by omega
    obtain rfl : d = d' := by have := hd.symm.trans h1; simpa using this
    refine Or.inr ⟨j, c, rfl, hc, hy, fun i x hi hx hcx => ?_⟩
    by_cases e : i = j
    · subst e; obtain rfl : c = x := by have := hc.symm.trans hx; simpa using this
      exact Int.le_refl _
    · have := h3 i x (by omega) hx hcx
      omega

theorem Best.more {F G : Int} {ps : List Bool} {s : Int} {cs : List Rc} {j k : Nat} {c d : Rc} (h : Best F G ps s cs j (k : Int)) (hd : cs[k]? = some d) (hc : cs[j]? = some c) (ge : ¬ c.pos < d.pos) : Best F G ps s cs (j + 1) k := by
  rcases h with ⟨h0, _⟩ | ⟨k', d', h0, h1, h2, h3⟩
  · omega
  · obtain rfl : k = k' := by omega
    obtain rfl : d = d' := by have := hd.symm.trans h1; simpa using this
    refine Or.inr ⟨k, d, rfl, hd, h2, fun i x hi hx hcx => ?_⟩
    by_cases e : i = j
    · subst e; obtain rfl : c = x := by have := hc.symm.trans hx; simpa using this
      omega
    · exact h3 i x (by omega) hx hcx

/-- The cells of a new block. -/
def newC (p s : Int) (k : Nat) : List Rc := (List.range k).map fun (i : Nat) => ⟨p + i * s, s, decide (i = 0), false⟩

theorem newC_succ (p s : Int) (k : Nat) : newC p s (k + 1) = newC p s k ++ [⟨p + k * s, s, decide (k = 0), false⟩] := by simp [newC, List.range_succ]

/-- What Take of something that is not large does. -/
def TakeS (F G : Int) (N : Nat) (ps : List Bool) (cs : List Rc) (s : Int) (e : Value) (cs' : List Rc) : Prop :=
  (∃ (b : Nat) (c : Rc), cs[b]? = some c ∧ candB F G ps s c = true ∧ (∀ d ∈ cs, candB F G ps s d = true → c.pos ≤ d.pos) ∧ e = .tuple #[.int .i64 c.pos, .bool true] ∧ cs' = cs.set b { c with used := true }) ∨
  ((∀ c ∈ cs, candB F G ps s c = false) ∧
    ((∃ p : Nat, p < N ∧ freeB F G cs p = true ∧ (∀ q : Nat, q < p → freeB F G cs q = false) ∧ e = .tuple #[.int .i64 (F + p * G), .bool true] ∧ cs' = cs ++ newC (F + p * G) s (G / s).toNat) ∨
    ((∀ q : Nat, q < N → freeB F G cs q = false) ∧ e = .tuple #[.int .i64 0, .bool false] ∧ cs' = cs)))

end Go.Proofs.YthmhehehomieiaaGreat

/- Pages as a list of what each one is; the document's cells as what such pages hold. Of numbers and lists alone. -/
namespace Go.Proofs.YthmhehehomieiaaGreat

/-- A page is free; or a block of cells of one size, each in use or not; or the first of c pages of something large; or another one of those. -/
inductive Pg where
  | free
  | blk (s : Int) (us : List Bool)
  | big (c : Nat)
  | rest

/-- The cells that begin in page i. -/
def Pg.cells (F G : Int) (i : Nat) : Pg → List Rc
  | .free => []
  | .rest => []
  | .big c => [⟨F + i * G, c * G, true, true⟩]
  | .blk s us => (List.range us.length).map fun (j : Nat) => ⟨F + i * G + j * s, s, us.getD j false, false⟩

def cellsP (F G : Int) (pgs : List Pg) : List Rc := (List.range pgs.length).flatMap fun i => (pgs.getD i .free).cells F G i

/-- What is asked of pages. -/
structure WF (G : Int) (pgs : List Pg) : Prop where
  blk : ∀ (i : Nat) (s : Int) (us : List Bool), pgs[i]? = some (.blk s us) → 4 ≤ s ∧ s ≤ G / 2 ∧ (us.length : Int) = G / s ∧ true ∈ us
  big : ∀ (i c : Nat), pgs[i]? = some (.big c) → 1 ≤ c ∧ i + c ≤ pgs.length ∧ ∀ j : Nat, i < j → j < i + c → pgs[j]? = some .rest
  rest : ∀ j : Nat, pgs[j]? = some .rest → ∃ i c : Nat, i < j ∧ j < i + c ∧ pgs[i]? = some (.big c)

theorem ofI_at {F G : Int} (g0 : 1 ≤ G) (i : Nat) (x : Int) (x0 : 0 ≤ x) (x1 : x < G) : ofI F G (F + i * G + x) = i := by
  unfold ofI
  have e : F + (i : Int) * G + x - F = x + (i : Int) * G := by omega
  have p : (0 : Int) ≤ (i : Int) * G := Int.mul_nonneg (by omega) (by omega)
  rw [e, tdiv_of (by omega), Int.add_mul_ediv_right _ _ (by omega), Int.ediv_eq_zero_of_lt x0 x1]
  omega

theorem mem_cellsP {F G : Int} {pgs : List Pg} {c : Rc} : c ∈ cellsP F G pgs ↔ ∃ (i : Nat) (x : Pg), pgs[i]? = some x ∧ c ∈ x.cells F G i := by
  unfold cellsP
  rw [List.mem_flatMap]
  constructor
  · rintro ⟨i, hi, hc⟩
    have hi := List.mem_range.1 hi
    refine ⟨i, pgs[i], List.getElem?_eq_getElem hi, ?_⟩
    rwa [List.getD_eq_getElem?_getD, List.getElem?_eq_getElem hi] at hc
  · rintro ⟨i, x, hx, hc⟩
    have hi := (List.getElem?_eq_some_iff.1 hx).1
    refine ⟨i, List.mem_range.2 hi, ?_⟩
    rwa [List.getD_eq_getElem?_getD, hx]

theorem mem_blk {F G : Int} {i : Nat} {s : Int} {us : List Bool} {c : Rc} : c ∈ (Pg.blk s us).cells F G i ↔ ∃ (j : Nat) (u : Bool), us[j]? = some u ∧ c = ⟨F + i * G + j * s, s, u, false⟩ := by
  simp only [Pg.cells, List.mem_map, List.mem_range]
  constructor
  · rintro ⟨j, hj, rfl⟩
    exact ⟨j, us[j], List.getElem?_eq_getElem hj, by rw [List.getD_eq_getElem?_getD, List.getElem?_eq_getElem hj]; rfl⟩
  · rintro ⟨j, u, hu, rfl⟩
    have hj := (List.getElem?_eq_some_iff.1 hu).1
    exact ⟨j, hj, by rw [List.getD_eq_getElem?_getD, hu]; rfl⟩

/-- A cell of a block lies within its page. -/
theorem in_page {G s : Int} {us : List Bool} {j : Nat} (s0 : 4 ≤ s) (hl : (us.length : Int) = G / s) (hj : j < us.length) : 0 ≤ (j : Int) * s ∧ (j : Int) * s + s ≤ G := by
  have h0 : (0 : Int) ≤ (j : Int) * s := Int.mul_nonneg (by omega) (by omega)
  have h1 := Int.mul_le_mul_of_nonneg_right (show (j : Int) + 1 ≤ G / s by omega) (show 0 ≤ s by omega)
  have h2 := Int.ediv_mul_le G (show s ≠ 0 by omega)
  rw [Int.add_mul, Int.one_mul] at h1
  omega

/-- Which pages a cell takes. -/
theorem cell_pages {F G : Int} {pgs : List Pg} (g0 : 1 ≤ G) (wf : WF G pgs) {i : Nat} {x : Pg} {c : Rc} (hx : pgs[i]? = some x) (hc : c ∈ x.cells F G i) :
    ofI F G c.pos = i ∧ ∃ k : Nat, 1 ≤ k ∧ ofI F G (c.pos + c.words - 1) = i + k - 1 ∧ ((k = 1 ∧ ∃ s us, x = .blk s us) ∨ x = .big k) := by
  cases x with
  | free => simp [Pg.cells] at hc
  | rest => simp [Pg.cells] at hc
  | big k =>
    obtain rfl : c = ⟨F + i * G, k * G, true, true⟩ := by simpa [Pg.cells] using hc
    obtain ⟨k1, _, _⟩ := wf.big i k hx
    have e := ofI_at (F := F) g0 i 0 (by omega) (by omega)
    rw [Int.add_zero] at e
    refine ⟨e, k, k1, ?_, Or.inr rfl⟩
    have e2 := ofI_at (F := F) g0 (i + k - 1) (G - 1) (by omega) (by omega)
    have m : ((i + k - 1 : Nat) : Int) * G = i * G + k * G - G := by
      rw [show ((i + k - 1 : Nat) : Int) = (i : Int) + k - 1 by omega, Int.sub_mul, Int.add_mul, Int.one_mul]
    rw [m] at e2
    show ofI F G (F + i * G + k * G - 1) = _
    rw [show F + (i : Int) * G + (k : Int) * G - 1 = F + ((i : Int) * G + (k : Int) * G - G) + (G - 1) by omega, e2]
    omega
  | blk s us =>
    obtain ⟨j, u, hu, rfl⟩ := mem_blk.1 hc
    obtain ⟨s0, s1, hl, _⟩ := wf.blk i s us hx
    obtain ⟨p0, p1⟩ := in_page s0 hl (List.getElem?_eq_some_iff.1 hu).1
    refine ⟨ofI_at g0 i _ p0 (by omega), 1, Nat.le_refl _, ?_, Or.inl ⟨rfl, s, us, rfl⟩⟩
    show ofI F G (F + i * G + j * s + s - 1) = _
    rw [show F + (i : Int) * G + (j : Int) * s + s - 1 = F + (i : Int) * G + ((j : Int) * s + s - 1) by omega, ofI_at g0 i _ (by omega) (by omega)]
    omega

/-- A page is free just if nothing lies in it. -/
theorem freeB_iff {F G : Int} {cs : List Rc} {pgs : List Pg} (g0 : 1 ≤ G) (wf : WF G pgs) (hp : cs.Perm (cellsP F G pgs)) {n : Nat} (hn : n < pgs.length) : freeB F G cs n = true ↔ pgs[n]? = some .free := by
  rw [freeB, List.all_eq_true]
  have hx : pgs[n]? = some pgs[n] := List.getElem?_eq_getElem hn
  constructor
  · intro h
    have no : ∀ (i : Nat) (x : Pg) (c : Rc) (k : Nat), pgs[i]? = some x → c ∈ x.cells F G i → ofI F G c.pos = i → ofI F G (c.pos + c.words - 1) = ((i + k - 1 : Nat) : Int) → i ≤ n → n ≤ i + k - 1 → False := fun i x c k hx hc h1 h2 h3 h4 => by
      have := h c (hp.mem_iff.2 (mem_cellsP.2 ⟨i, x, hx, hc⟩))
      rw [onB, h1, h2, decide_eq_true (by omega), decide_eq_true (by omega)] at this
      simp at this
    cases hg : pgs[n] with
    | free => rw [hx, hg]
    | rest =>
      rw [hg] at hx
      obtain ⟨i, k, hi1, hi2, hb⟩ := wf.rest n hx
      have hc : (⟨F + i * G, k * G, true, true⟩ : Rc) ∈ (Pg.big k).cells F G i := by simp [Pg.cells]
      obtain ⟨e1, k', k1, e2, e3⟩ := cell_pages g0 wf hb hc
      rcases e3 with ⟨_, s, us, e⟩ | e
      · cases e
      · cases e
        exact (no i _ _ k hb hc e1 (by omega) (by omega) (by omega)).elim
    | big k =>
      rw [hg] at hx
      have hc : (⟨F + n * G, k * G, true, true⟩ : Rc) ∈ (Pg.big k).cells F G n := by simp [Pg.cells]
      obtain ⟨e1, k', k1, e2, _⟩ := cell_pages g0 wf hx hc
      exact (no n _ _ k' hx hc e1 (by omega) (by omega) (by omega)).elim
    | blk s us =>
      rw [hg] at hx
      obtain ⟨_, _, _, ht⟩ := wf.blk n s us hx
      obtain ⟨j, hj, he⟩ := List.getElem_of_mem ht
      have hc : (⟨F + n * G + j * s, s, true, false⟩ : Rc) ∈ (Pg.blk s us).cells F G n := mem_blk.2 ⟨j, true, by rw [List.getElem?_eq_getElem hj, he], rfl⟩
      obtain ⟨e1, k', k1, e2, _⟩ := cell_pages g0 wf hx hc
      exact (no n _ _ k' hx hc e1 (by omega) (by omega) (by omega)).elim
  · intro h c hc
    obtain ⟨i, x, hi, hcx⟩ := mem_cellsP.1 (hp.mem_iff.1 hc)
    obtain ⟨e1, k, k1, e2, e3⟩ := cell_pages g0 wf hi hcx
    rw [onB, e1, e2]
    have off : ¬ (i ≤ n ∧ n < i + k) := by
      rintro ⟨a1, a2⟩
      by_cases e : i = n
      · subst e
        rw [h] at hi
        cases hi
        simp [Pg.cells] at hcx
      · rcases e3 with ⟨e4, _⟩ | e4
        · omega
        · subst e4
          have := (wf.big i k hi).2.2 n (by omega) (by omega)
          rw [h] at this
          cases this
    by_cases a1 : (i : Int) ≤ (n : Int)
    · rw [decide_eq_false (show ¬ (n : Int) ≤ (i : Int) + k - 1 by omega), Bool.and_false]
      rfl
    · rw [decide_eq_false a1, Bool.false_and]
      rfl
end Go.Proofs.YthmhehehomieiaaGreat

/- What turns of the cells when a page turns: cells are the pages' up to their order. Of numbers and lists alone. -/
namespace Go.Proofs.YthmhehehomieiaaGreat

/-- The cells are those of the pages, in any order. -/
structure Rel (F G : Int) (cs : List Rc) (pgs : List Pg) : Prop where
  perm : cs.Perm (cellsP F G pgs)
  wf : WF G pgs

theorem flatMap_ext {α β : Type} {l : List α} {f g : α → List β} (h : ∀ x ∈ l, f x = g x) : l.flatMap f = l.flatMap g := by
  induction l with
  | nil => rfl
  | cons a l ih => rw [List.flatMap_cons, List.flatMap_cons, h a (List.mem_cons_self ..), ih fun x hx => h x (List.mem_cons_of_mem _ hx)]

theorem set_same {α : Type} {l : List α} {p : Nat} {x : α} (h : l[p]? = some x) : l.set p x = l := by
  apply List.ext_getElem?
  intro i
  by_cases e : i = p
  · subst e; rw [List.getElem?_set_self (List.getElem?_eq_some_iff.1 h).1, h]
  · rw [List.getElem?_set_ne (by omega)]

theorem perm_set {cs L R : List Rc} {b : Nat} {c c' : Rc} (hb : cs[b]? = some c) (hp : cs.Perm (L ++ c :: R)) : (cs.set b c').Perm (L ++ c' :: R) := by
  have aux : ∀ (cs : List Rc) (b : Nat), cs[b]? = some c → cs.Perm (c :: cs.eraseIdx b) ∧ (cs.set b c').Perm (c' :: cs.eraseIdx b) := by
    intro cs
    induction cs with
    | nil => intro b hb; simp at hb
    | cons d cs ih =>
      intro b hb
      cases b with
      | zero =>
        obtain rfl : d = c := by simpa using hb
        exact ⟨List.Perm.refl _, List.Perm.refl _⟩
      | succ b =>
        obtain ⟨h1, h2⟩ := ih b (by simpa using hb)
        simp only [List.eraseIdx_cons_succ, List.set_cons_succ]
        exact ⟨(h1.cons d).trans (List.Perm.swap ..), (h2.cons d).trans (List.Perm.swap ..)⟩
  obtain ⟨h1, h2⟩ := aux cs b hb
  have h3 : (c :: cs.eraseIdx b).Perm (c :: (L ++ R)) := (h1.symm.trans hp).trans List.perm_middle
  exact h2.trans ((h3.cons_inv.cons c').trans List.perm_middle.symm)

/-- One page turns: what begins in other pages stays. -/
theorem cellsP_split (F G : Int) (pgs : List Pg) (p : Nat) (hp : p < pgs.length) :
    ∃ A B : List Rc, (∀ y, cellsP F G (pgs.set p y) = A ++ (y.cells F G p ++ B)) ∧ (∀ c ∈ A ++ B, ∃ (i : Nat) (x : Pg), i ≠ p ∧ pgs[i]? = some x ∧ c ∈ x.cells F G i) := by
  refine ⟨(List.range p).flatMap fun i => (pgs.getD i .free).cells F G i, (List.range' (p + 1) (pgs.length - p - 1)).flatMap fun i => (pgs.getD i .free).cells F G i, fun y => ?_, ?_⟩
  · unfold cellsP
    rw [List.length_set]
    have e : List.range pgs.length = List.range p ++ (p :: List.range' (p + 1) (pgs.length - p - 1)) := by
      rw [List.range_eq_range', List.range_eq_range', show pgs.length = p + (1 + (pgs.length - p - 1)) by omega, ← List.range'_append_1]
      congr 1
      rw [Nat.zero_add, Nat.add_comm 1, List.range'_succ]
      congr 2
      omega
    rw [e, List.flatMap_append, List.flatMap_cons]
    congr 1
    · apply flatMap_ext
      intro i hi
      have := List.mem_range.1 hi
      rw [List.getD_eq_getElem?_getD, List.getElem?_set_ne (by omega), ← List.getD_eq_getElem?_getD]
    · congr 1
      · rw [List.getD_eq_getElem?_getD, List.getElem?_set_self hp]
        rfl
      · apply flatMap_ext
        intro i hi
        have := (List.mem_range'_1.1 hi).1
        rw [List.getD_eq_getElem?_getD, List.getElem?_set_ne (by omega), ← List.getD_eq_getElem?_getD]
  · intro c hc
    have get : ∀ i, i < pgs.length → i ≠ p → c ∈ (pgs.getD i .free).cells F G i → ∃ (i : Nat) (x : Pg), i ≠ p ∧ pgs[i]? = some x ∧ c ∈ x.cells F G i := fun i hi hne h =>
      ⟨i, pgs[i], hne, List.getElem?_eq_getElem hi, by rwa [List.getD_eq_getElem?_getD, List.getElem?_eq_getElem hi] at h⟩
    rcases List.mem_append.1 hc with h | h
    · obtain ⟨i, hi, h⟩ := List.mem_flatMap.1 h
      have := List.mem_range.1 hi
      exact get i (by omega) (by omega) h
    · obtain ⟨i, hi, h⟩ := List.mem_flatMap.1 h
      have := List.mem_range'_1.1 hi
      exact get i (by omega) (by omega) h

/-- A page that is no part of something large turns into one that is none either. -/
theorem WF.turn {G : Int} {pgs : List Pg} (wf : WF G pgs) {p : Nat} {x y : Pg} (hx : pgs[p]? = some x) (h1 : x = .free ∨ ∃ s us, x = .blk s us)
    (h2 : y = .free ∨ ∃ s us, y = .blk s us ∧ 4 ≤ s ∧ s ≤ G / 2 ∧ (us.length : Int) = G / s ∧ true ∈ us) : WF G (pgs.set p y) := by
  have hp := (List.getElem?_eq_some_iff.1 hx).1
  have nb : ∀ c, x ≠ .big c := fun c e => by rcases h1 with h | ⟨s, us, h⟩ <;> rw [h] at e <;> cases e
  have nr : x ≠ .rest := fun e => by rcases h1 with h | ⟨s, us, h⟩ <;> rw [h] at e <;> cases e
  have yb : ∀ c, y ≠ .big c := fun c e => by rcases h2 with h | ⟨s, us, h, _⟩ <;> rw [h] at e <;> cases e
  have yr : y ≠ .rest := fun e => by rcases h2 with h | ⟨s, us, h, _⟩ <;> rw [h] at e <;> cases e
  have at_ : ∀ i : Nat, (pgs.set p y)[i]? = if i = p then some y else pgs[i]? := fun i => by
    by_cases e : i = p
    · subst e; rw [List.getElem?_set_self hp, if_pos rfl]
    · rw [List.getElem?_set_ne (by omega), if_neg e]
  refine ⟨fun i s us h => ?_, fun i c h => ?_, fun j h => ?_⟩
  · rw [at_] at h
    by_cases e : i = p
    · rw [if_pos e] at h
      cases h
      rcases h2 with h | ⟨s', us', h, k⟩
      · cases h
      · cases h; exact k
    · rw [if_neg e] at h
      exact wf.blk i s us h
  · rw [at_] at h
    by_cases e : i = p
    · rw [if_pos e] at h
      exact absurd (Option.some.inj h) (yb c)
    · rw [if_neg e] at h
      obtain ⟨k1, k2, k3⟩ := wf.big i c h
      refine ⟨k1, by rw [List.length_set]; exact k2, fun j j1 j2 => ?_⟩
      have := k3 j j1 j2
      rw [at_, if_neg (fun e => by subst e; rw [hx] at this; exact nr (Option.some.inj this))]
      exact this
  · rw [at_] at h
    by_cases e : j = p
    · rw [if_pos e] at h
      exact absurd (Option.some.inj h) yr
    · rw [if_neg e] at h
      obtain ⟨i, c, i1, i2, i3⟩ := wf.rest j h
      refine ⟨i, c, i1, i2, ?_⟩
      rw [at_, if_neg (fun e => by subst e; rw [hx] at i3; exact nb c (Option.some.inj i3))]
      exact i3

/-- The flags of a new block. -/
def us0 (k : Nat) : List Bool := (List.range k).map fun j => decide (j = 0)

theorem newC_cells (F G s : Int) (p k : Nat) : newC (F + p * G) s k = (Pg.blk s (us0 k)).cells F G p := by
  show _ = (List.range (us0 k).length).map fun (j : Nat) => (⟨F + p * G + j * s, s, (us0 k).getD j false, false⟩ : Rc)
  unfold newC us0
  rw [List.length_map, List.length_range]
  apply List.map_congr_left
  intro j hj
  have := List.mem_range.1 hj
  simp [List.getD_eq_getElem?_getD, this]

/-- A free page becomes a block. -/
theorem Rel.fresh {F G : Int} {cs : List Rc} {pgs : List Pg} (h : Rel F G cs pgs) {p : Nat} {s : Int} (hx : pgs[p]? = some .free) (s0 : 4 ≤ s) (s1 : s ≤ G / 2) :
    Rel F G (cs ++ newC (F + p * G) s (G / s).toNat) (pgs.set p (.blk s (us0 (G / s).toNat))) := by
  have hp := (List.getElem?_eq_some_iff.1 hx).1
  have q2 : 2 ≤ G / s := (Int.le_ediv_iff_mul_le (by omega)).2 (by omega)
  obtain ⟨A, B, e, _⟩ := cellsP_split F G pgs p hp
  refine ⟨?_, h.wf.turn hx (Or.inl rfl) (Or.inr ⟨s, _, rfl, s0, s1, by simp [us0]; omega, ?_⟩)⟩
  · rw [e, newC_cells]
    have e0 := e .free
    rw [show pgs.set p .free = pgs from set_same hx] at e0
    have hp0 := h.perm
    rw [e0] at hp0
    have h1 : (cs ++ (Pg.blk s (us0 (G / s).toNat)).cells F G p).Perm ((A ++ B) ++ (Pg.blk s (us0 (G / s).toNat)).cells F G p) := hp0.append_right _
    refine h1.trans ?_
    rw [List.append_assoc]
    exact List.Perm.append_left A List.perm_append_comm
  · rw [us0, List.mem_map]
    exact ⟨0, List.mem_range.2 (by omega), rfl⟩

theorem blk_split (F G : Int) (p : Nat) (s : Int) (us : List Bool) (j : Nat) (hj : j < us.length) : ∃ L R : List Rc, ∀ u, (Pg.blk s (us.set j u)).cells F G p = L ++ (⟨F + p * G + j * s, s, u, false⟩ : Rc) :: R := by
  refine ⟨(List.range j).map fun (i : Nat) => ⟨F + p * G + i * s, s, us.getD i false, false⟩, (List.range' (j + 1) (us.length - j - 1)).map fun (i : Nat) => ⟨F + p * G + i * s, s, us.getD i false, false⟩, fun u => ?_⟩
  show (List.range (us.set j u).length).map (fun (i : Nat) => (⟨F + p * G + i * s, s, (us.set j u).getD i false, false⟩ : Rc)) = _
  rw [List.length_set]
  have e : List.range us.length = List.range j ++ (j :: List.range' (j + 1) (us.length - j - 1)) := by
    rw [List.range_eq_range', List.range_eq_range', show us.length = j + (1 + (us.length - j - 1)) by omega, ← List.range'_append_1]
    congr 1
    rw [Nat.zero_add, Nat.add_comm 1, List.range'_succ]
    congr 2
    omega
  rw [e, List.map_append, List.map_cons]
  congr 1
  · apply List.map_congr_left
    intro i hi
    have := List.mem_range.1 hi
    rw [List.getD_eq_getElem?_getD, List.getElem?_set_ne (by omega), ← List.getD_eq_getElem?_getD]
  · congr 1
    · rw [List.getD_eq_getElem?_getD, List.getElem?_set_self hj]
      rfl
    · apply List.map_congr_left
      intro i hi
      have := (List.mem_range'_1.1 hi).1
      rw [List.getD_eq_getElem?_getD, List.getElem?_set_ne (by omega), ← List.getD_eq_getElem?_getD]

/-- The cells, one of which has its flag turned, are the pages' with that flag turned. -/
theorem perm_turn {F G : Int} {cs : List Rc} {pgs : List Pg} (h : cs.Perm (cellsP F G pgs)) {p j b : Nat} {s : Int} {us : List Bool} {u : Bool} (hx : pgs[p]? = some (.blk s us)) (hu : us[j]? = some u)
    (hb : cs[b]? = some ⟨F + p * G + j * s, s, u, false⟩) (u' : Bool) : (cs.set b ⟨F + p * G + j * s, s, u', false⟩).Perm (cellsP F G (pgs.set p (.blk s (us.set j u')))) := by
  obtain ⟨A, B, e, _⟩ := cellsP_split F G pgs p (List.getElem?_eq_some_iff.1 hx).1
  obtain ⟨L, R, e2⟩ := blk_split F G p s us j (List.getElem?_eq_some_iff.1 hu).1
  have e0 := e (.blk s us)
  rw [set_same hx] at e0
  have e3 := e2 u
  rw [set_same hu] at e3
  rw [e0, e3] at h
  rw [e, e2 u']
  have h' : cs.Perm ((A ++ L) ++ (⟨F + p * G + j * s, s, u, false⟩ : Rc) :: (R ++ B)) := by simpa using h
  have := perm_set (c' := ⟨F + p * G + j * s, s, u', false⟩) hb h'
  simpa using this

/-- A cell of a block is taken. -/
theorem Rel.reuse {F G : Int} {cs : List Rc} {pgs : List Pg} (h : Rel F G cs pgs) {p j b : Nat} {s : Int} {us : List Bool} {u : Bool} (hx : pgs[p]? = some (.blk s us)) (hu : us[j]? = some u)
    (hb : cs[b]? = some ⟨F + p * G + j * s, s, u, false⟩) : Rel F G (cs.set b ⟨F + p * G + j * s, s, true, false⟩) (pgs.set p (.blk s (us.set j true))) := by
  obtain ⟨k1, k2, k3, _⟩ := h.wf.blk p s us hx
  exact ⟨perm_turn h.perm hx hu hb true, h.wf.turn hx (Or.inr ⟨s, us, rfl⟩) (Or.inr ⟨s, _, rfl, k1, k2, by rw [List.length_set]; exact k3, List.mem_set (List.getElem?_eq_some_iff.1 hu).1 true⟩)⟩

/-- A cell of a block is given back, and another is in use still. -/
theorem Rel.lessen {F G : Int} {cs : List Rc} {pgs : List Pg} (h : Rel F G cs pgs) {p j b : Nat} {s : Int} {us : List Bool} {u : Bool} (hx : pgs[p]? = some (.blk s us)) (hu : us[j]? = some u)
    (hb : cs[b]? = some ⟨F + p * G + j * s, s, u, false⟩) (ht : true ∈ us.set j false) : Rel F G (cs.set b ⟨F + p * G + j * s, s, false, false⟩) (pgs.set p (.blk s (us.set j false))) := by
  obtain ⟨k1, k2, k3, _⟩ := h.wf.blk p s us hx
  exact ⟨perm_turn h.perm hx hu hb false, h.wf.turn hx (Or.inr ⟨s, us, rfl⟩) (Or.inr ⟨s, _, rfl, k1, k2, by rw [List.length_set]; exact k3, ht⟩)⟩

/-- What begins in page p is struck. -/
theorem filter_page {F G : Int} {pgs : List Pg} (g0 : 1 ≤ G) (wf : WF G pgs) {p : Nat} (hp : p < pgs.length) {ds : List Rc} {y : Pg} (hd : ds.Perm (cellsP F G (pgs.set p y))) (hy : ∀ c ∈ y.cells F G p, ofI F G c.pos = p) :
    (ds.filter (otherB F G p)).Perm (cellsP F G (pgs.set p .free)) := by
  obtain ⟨A, B, e, ho⟩ := cellsP_split F G pgs p hp
  rw [e] at hd
  rw [e]
  have h1 := hd.filter (otherB F G p)
  have far : ∀ c ∈ A ++ B, otherB F G p c = true := fun c hc => by
    obtain ⟨i, x, hi, hx, hcx⟩ := ho c hc
    have := (cell_pages g0 wf hx hcx).1
    simp only [otherB, this, Bool.not_eq_true', decide_eq_false_iff_not]
    omega
  have h2 : (A ++ (y.cells F G p ++ B)).filter (otherB F G p) = A ++ B := by
    rw [List.filter_append, List.filter_append, List.filter_eq_self.2 fun c hc => far c (List.mem_append_left _ hc), List.filter_eq_self.2 fun c hc => far c (List.mem_append_right _ hc),
      List.filter_eq_nil_iff.2 fun c hc => by simp [otherB, hy c hc]]
    rfl
  rw [h2] at h1
  exact h1

/-- The last cell in use of a block is given back: the page is free. -/
theorem Rel.empty {F G : Int} {cs : List Rc} {pgs : List Pg} (g0 : 1 ≤ G) (h : Rel F G cs pgs) {p j b : Nat} {s : Int} {us : List Bool} {u : Bool} (hx : pgs[p]? = some (.blk s us)) (hu : us[j]? = some u)
    (hb : cs[b]? = some ⟨F + p * G + j * s, s, u, false⟩) : Rel F G ((cs.set b ⟨F + p * G + j * s, s, false, false⟩).filter (otherB F G p)) (pgs.set p .free) := by
  obtain ⟨k1, k2, k3, _⟩ := h.wf.blk p s us hx
  refine ⟨filter_page g0 h.wf (List.getElem?_eq_some_iff.1 hx).1 (perm_turn h.perm hx hu hb false) fun c hc => ?_, h.wf.turn hx (Or.inr ⟨s, us, rfl⟩) (Or.inl rfl)⟩
  obtain ⟨i, v, hv, rfl⟩ := mem_blk.1 hc
  have hi := (List.getElem?_eq_some_iff.1 hv).1
  rw [List.length_set] at hi
  obtain ⟨p0, p1⟩ := in_page k1 k3 hi
  exact ofI_at g0 p _ p0 (by omega)
end Go.Proofs.YthmhehehomieiaaGreat

/- What the document answers of cells is what the pages say. Of numbers and lists alone. -/
namespace Go.Proofs.YthmhehehomieiaaGreat

theorem perm_sorted {xs ys : List Int} (hp : xs.Perm ys) (hx : xs.Pairwise (· ≤ ·)) (hy : ys.Pairwise (· ≤ ·)) : xs = ys := by
  induction xs generalizing ys with
  | nil => exact (List.nil_perm.1 hp).symm
  | cons a xs ih =>
    cases ys with
    | nil => exact absurd hp.symm (by intro h; have := List.nil_perm.1 h; cases this)
    | cons b ys =>
      obtain ⟨ha, hx2⟩ := List.pairwise_cons.1 hx
      obtain ⟨hb, hy2⟩ := List.pairwise_cons.1 hy
      have ab : a = b := by
        have h1 : a ∈ b :: ys := hp.mem_iff.1 (List.mem_cons_self ..)
        have h2 : b ∈ a :: xs := hp.mem_iff.2 (List.mem_cons_self ..)
        rcases List.mem_cons.1 h1 with h1 | h1
        · exact h1
        · rcases List.mem_cons.1 h2 with h2 | h2
          · exact h2.symm
          · exact Int.le_antisymm (ha b h2) (hb a h1)
      subst ab
      rw [ih hp.cons_inv hx2 hy2]

/-- No two cells begin at one place. -/
theorem pos_unique {F G : Int} {pgs : List Pg} (g0 : 1 ≤ G) (wf : WF G pgs) {c d : Rc} (hc : c ∈ cellsP F G pgs) (hd : d ∈ cellsP F G pgs) (e : c.pos = d.pos) : c = d := by
  obtain ⟨i, x, hx, hcx⟩ := mem_cellsP.1 hc
  obtain ⟨k, y, hy, hdy⟩ := mem_cellsP.1 hd
  have e1 := (cell_pages g0 wf hx hcx).1
  have e2 := (cell_pages g0 wf hy hdy).1
  rw [e, e2] at e1
  obtain rfl : k = i := by omega
  rw [hx] at hy
  cases hy
  cases x with
  | free => simp [Pg.cells] at hcx
  | rest => simp [Pg.cells] at hcx
  | big m =>
    simp only [Pg.cells, List.mem_singleton] at hcx hdy
    rw [hcx, hdy]
  | blk s us =>
    obtain ⟨j, u, hu, rfl⟩ := mem_blk.1 hcx
    obtain ⟨j', u', hu', rfl⟩ := mem_blk.1 hdy
    obtain ⟨s0, _⟩ := wf.blk k s us hx
    have e3 : (j : Int) * s = (j' : Int) * s := by
      have e : F + (k : Int) * G + (j : Int) * s = F + (k : Int) * G + (j' : Int) * s := e
      omega
    obtain rfl : j = j' := by
      have := Int.eq_of_mul_eq_mul_right (show s ≠ 0 by omega) e3
      omega
    rw [hu] at hu'
    cases hu'
    rfl

theorem find_eq {F G : Int} {cs : List Rc} {pgs : List Pg} (g0 : 1 ≤ G) (h : Rel F G cs pgs) (n : Int) : cs.find? (hitB n) = (cellsP F G pgs).find? (hitB n) := by
  cases e1 : cs.find? (hitB n) with
  | none =>
    symm
    rw [List.find?_eq_none] at e1 ⊢
    exact fun c hc => e1 c (h.perm.mem_iff.2 hc)
  | some c =>
    have hc := List.mem_of_find?_eq_some e1
    have hh := List.find?_some e1
    cases e2 : (cellsP F G pgs).find? (hitB n) with
    | none =>
      rw [List.find?_eq_none] at e2
      exact absurd hh (e2 c (h.perm.mem_iff.1 hc))
    | some d =>
      have hd := List.mem_of_find?_eq_some e2
      have hh2 := List.find?_some e2
      simp only [hitB, Bool.and_eq_true, decide_eq_true_eq] at hh hh2
      rw [pos_unique g0 h.wf (h.perm.mem_iff.1 hc) hd (hh.1.trans hh2.1.symm)]

def Pg.isFree : Pg → Bool
  | .free => true
  | _ => false

/-- Is it a block, or the first page of something large? -/
def Pg.first : Pg → Bool
  | .blk _ _ => true
  | .big _ => true
  | _ => false

theorem hasB_at {F G : Int} {cs : List Rc} {pgs : List Pg} (g0 : 1 ≤ G) (h : Rel F G cs pgs) {n : Nat} {x : Pg} (hx : pgs[n]? = some x) : hasR F G cs n = x.first := by
  have no : (∀ c, c ∉ x.cells F G n) → hasR F G cs n = false := fun hno => by
    rw [hasR, List.any_eq_false]
    intro c hc hd
    obtain ⟨i, y, hy, hcy⟩ := mem_cellsP.1 (h.perm.mem_iff.1 hc)
    have := (cell_pages g0 h.wf hy hcy).1
    have hd := of_decide_eq_true hd
    obtain rfl : i = n := by omega
    rw [hx] at hy
    cases hy
    exact hno c hcy
  have yes : ∀ c, c ∈ x.cells F G n → hasR F G cs n = true := fun c hc => by
    rw [hasR, List.any_eq_true]
    exact ⟨c, h.perm.mem_iff.2 (mem_cellsP.2 ⟨n, x, hx, hc⟩), decide_eq_true (cell_pages g0 h.wf hx hc).1⟩
  cases x with
  | free => exact no fun c hc => by simp [Pg.cells] at hc
  | rest => exact no fun c hc => by simp [Pg.cells] at hc
  | big k => exact yes ⟨F + n * G, k * G, true, true⟩ (by simp [Pg.cells])
  | blk s us =>
    obtain ⟨_, _, _, ht⟩ := h.wf.blk n s us hx
    obtain ⟨j, hj, e⟩ := List.getElem_of_mem ht
    exact yes ⟨F + n * G + j * s, s, true, false⟩ (mem_blk.2 ⟨j, true, by rw [List.getElem?_eq_getElem hj, e], rfl⟩)

theorem pend_eq {F G : Int} {cs : List Rc} {pgs : List Pg} (g0 : 1 ≤ G) (h : Rel F G cs pgs) : ((List.range pgs.length).map fun k : Nat => hasR F G cs (k : Int)) = pgs.map Pg.first := by
  apply List.ext_getElem?
  intro i
  by_cases hi : i < pgs.length
  · rw [List.getElem?_map, List.getElem?_map, List.getElem?_range hi, List.getElem?_eq_getElem hi]
    simp only [Option.map_some]
    rw [hasB_at g0 h (List.getElem?_eq_getElem hi)]
  · rw [List.getElem?_eq_none (by simp; omega), List.getElem?_eq_none (by simp; omega)]

theorem freeB_at {F G : Int} {cs : List Rc} {pgs : List Pg} (g0 : 1 ≤ G) (h : Rel F G cs pgs) {n : Nat} {x : Pg} (hx : pgs[n]? = some x) : freeB F G cs n = x.isFree := by
  have k := freeB_iff g0 h.wf h.perm (List.getElem?_eq_some_iff.1 hx).1
  rw [hx] at k
  cases e : freeB F G cs n with
  | true =>
    have := k.1 e
    cases this
    rfl
  | false =>
    cases x with
    | free => rw [k.2 rfl] at e; cases e
    | _ => rfl

/-- How many of the first k pages are free. -/
theorem freesI_eq {F G : Int} {cs : List Rc} {pgs : List Pg} (g0 : 1 ≤ G) (h : Rel F G cs pgs) {k : Nat} (hk : k ≤ pgs.length) : freesI F G cs k = ((pgs.take k).countP Pg.isFree : Nat) := by
  induction k with
  | zero => simp [freesI]
  | succ k ih =>
    have hx : pgs[k]? = some pgs[k] := List.getElem?_eq_getElem (by omega)
    rw [freesI, ih (by omega), freeB_at g0 h hx, take_snoc hx, List.countP_append, List.countP_singleton]
    cases pgs[k].isFree <;> simp

theorem usedI_perm {cs ds : List Rc} (h : cs.Perm ds) : usedI cs = usedI ds := by
  induction h with
  | nil => rfl
  | cons c _ ih => simp only [usedI, ih]
  | swap c d l => simp only [usedI]; omega
  | trans _ _ h1 h2 => exact h1.trans h2

/-- The places of the pages' cells rise. -/
theorem cellsP_rise {F G : Int} {pgs : List Pg} (g0 : 1 ≤ G) (wf : WF G pgs) : ((cellsP F G pgs).map Rc.pos).Pairwise (· < ·) := by
  rw [List.pairwise_map, cellsP, List.pairwise_flatMap]
  have lies : ∀ (i : Nat) (c : Rc), i < pgs.length → c ∈ (pgs.getD i .free).cells F G i → F + i * G ≤ c.pos ∧ c.pos < F + i * G + G := fun i c hi hc => by
    have hx : pgs[i]? = some pgs[i] := List.getElem?_eq_getElem hi
    rw [List.getD_eq_getElem?_getD, hx] at hc
    simp only [Option.getD_some] at hc
    generalize pgs[i] = x at hx hc
    cases x with
    | free => simp [Pg.cells] at hc
    | rest => simp [Pg.cells] at hc
    | big m => obtain rfl : c = ⟨F + i * G, m * G, true, true⟩ := by simpa [Pg.cells] using hc
               exact ⟨Int.le_refl _, by show F + (i : Int) * G < F + (i : Int) * G + G; omega⟩
    | blk s us =>
      obtain ⟨j, u, hu, rfl⟩ := mem_blk.1 hc
      obtain ⟨s0, _, hl, _⟩ := wf.blk i s us hx
      obtain ⟨p0, p1⟩ := in_page s0 hl (List.getElem?_eq_some_iff.1 hu).1
      exact ⟨by show F + (i : Int) * G ≤ F + (i : Int) * G + (j : Int) * s; omega, by show F + (i : Int) * G + (j : Int) * s < F + (i : Int) * G + G; omega⟩
  refine ⟨fun i hi => ?_, ?_⟩
  · have hi := List.mem_range.1 hi
    have hx : pgs[i]? = some pgs[i] := List.getElem?_eq_getElem hi
    rw [List.getD_eq_getElem?_getD, hx]
    simp only [Option.getD_some]
    generalize pgs[i] = x at hx
    cases x with
    | free => exact List.Pairwise.nil
    | rest => exact List.Pairwise.nil
    | big m => exact List.pairwise_singleton _ _
    | blk s us =>
      obtain ⟨s0, _⟩ := wf.blk i s us hx
      show ((List.range us.length).map fun (j : Nat) => (⟨F + i * G + j * s, s, us.getD j false, false⟩ : Rc)).Pairwise _
      rw [List.pairwise_map]
      refine List.Pairwise.imp ?_ (List.pairwise_lt_range (n := us.length))
      intro j k hjk
      have := Int.mul_lt_mul_of_pos_right (show (j : Int) < k by omega) (show 0 < s by omega)
      show F + (i : Int) * G + (j : Int) * s < F + (i : Int) * G + (k : Int) * s
      omega
  · refine List.Pairwise.imp_of_mem ?_ (List.pairwise_lt_range (n := pgs.length))
    intro i k hi hk hik c hc d hd
    have h1 := lies i c (List.mem_range.1 hi) hc
    have h2 := lies k d (List.mem_range.1 hk) hd
    have h3 := Int.mul_le_mul_of_nonneg_right (show (i : Int) + 1 ≤ k by omega) (show 0 ≤ G by omega)
    rw [Int.add_mul, Int.one_mul] at h3
    omega

/-- Where what is in use begins, in a part. -/
def startsP (F G : Int) (pgs : List Pg) (f t : Int) : List Int := ((cellsP F G pgs).filter (inR f t)).map Rc.pos

theorem starts_eq {F G : Int} {cs : List Rc} {pgs : List Pg} (g0 : 1 ≤ G) (h : Rel F G cs pgs) {f t : Int} {ys : List Int} (hs : ys.Pairwise (· ≤ ·)) (hp : ys.Perm ((cs.filter (inR f t)).map Rc.pos)) : ys = startsP F G pgs f t := by
  refine perm_sorted (hp.trans ((h.perm.filter _).map _)) hs ?_
  have := cellsP_rise (F := F) g0 h.wf
  rw [List.pairwise_map] at this
  rw [startsP, List.pairwise_map]
  exact (this.filter _).imp fun h => Int.le_of_lt h
end Go.Proofs.YthmhehehomieiaaGreat

/- Take and Give of the document, as they turn pages. Of numbers and lists alone. -/
namespace Go.Proofs.YthmhehehomieiaaGreat

/-- k pages from p on turn into y. -/
def fill (pgs : List Pg) (y : Pg) (p k : Nat) : List Pg := (List.range pgs.length).map fun i => if p ≤ i ∧ i < p + k then y else pgs.getD i .free

theorem fill_length (pgs : List Pg) (y : Pg) (p k : Nat) : (fill pgs y p k).length = pgs.length := by simp [fill]

theorem fill_at (pgs : List Pg) (y : Pg) (p k i : Nat) (hi : i < pgs.length) : (fill pgs y p k)[i]? = if p ≤ i ∧ i < p + k then some y else pgs[i]? := by
  unfold fill
  rw [List.getElem?_map, List.getElem?_range hi, Option.map_some]
  split
  · rfl
  · rw [List.getD_eq_getElem?_getD, List.getElem?_eq_getElem hi]
    rfl

theorem cellsP_same {F G : Int} {ps qs : List Pg} (hl : ps.length = qs.length) (h : ∀ i, i < ps.length → (ps.getD i .free).cells F G i = (qs.getD i .free).cells F G i) : cellsP F G ps = cellsP F G qs := by
  unfold cellsP
  rw [← hl]
  exact flatMap_ext fun i hi => h i (List.mem_range.1 hi)

theorem cellsP_fill {F G : Int} {pgs : List Pg} {y : Pg} {p k : Nat} (hy : ∀ i, y.cells F G i = []) (h : ∀ i x, p ≤ i → i < p + k → pgs[i]? = some x → x.cells F G i = []) : cellsP F G (fill pgs y p k) = cellsP F G pgs := by
  refine cellsP_same (fill_length ..) fun i hi => ?_
  rw [fill_length] at hi
  rw [List.getD_eq_getElem?_getD, List.getD_eq_getElem?_getD, fill_at _ _ _ _ _ hi]
  split
  · rename_i hr
    rw [Option.getD_some, hy, List.getElem?_eq_getElem hi, Option.getD_some, h i _ hr.1 hr.2 (List.getElem?_eq_getElem hi)]
  · rfl

/-- Pages from p on become something large. -/
def bigAt (pgs : List Pg) (p C : Nat) : List Pg := (fill pgs .rest p C).set p (.big C)

theorem bigAt_at (pgs : List Pg) (p C i : Nat) (hi : i < pgs.length) : (bigAt pgs p C)[i]? = if i = p then some (.big C) else if p ≤ i ∧ i < p + C then some .rest else pgs[i]? := by
  unfold bigAt
  by_cases e : i = p
  · subst e
    rw [List.getElem?_set_self (by rw [fill_length]; exact hi), if_pos rfl]
  · rw [List.getElem?_set_ne (by omega), if_neg e, fill_at _ _ _ _ _ hi]

theorem Rel.large {F G : Int} {cs : List Rc} {pgs : List Pg} (h : Rel F G cs pgs) {p C : Nat} (hC : p + C ≤ pgs.length) (h1 : 1 ≤ C) (hf : ∀ i, p ≤ i → i < p + C → pgs[i]? = some .free) :
    Rel F G (cs ++ [⟨F + p * G, C * G, true, true⟩]) (bigAt pgs p C) := by
  have len : (bigAt pgs p C).length = pgs.length := by rw [bigAt, List.length_set, fill_length]
  have at_ := fun i hi => bigAt_at pgs p C i hi
  refine ⟨?_, ⟨fun i s us hb => ?_, fun i c hb => ?_, fun j hb => ?_⟩⟩
  · have hpl : p < (fill pgs .rest p C).length := by rw [fill_length]; omega
    obtain ⟨A, B, e, _⟩ := cellsP_split F G (fill pgs .rest p C) p hpl
    have e0 := e .rest
    rw [set_same (by rw [fill_at _ _ _ _ _ (by omega), if_pos ⟨by omega, by omega⟩]), cellsP_fill (fun _ => rfl) (fun i x i1 i2 hx => by rw [hf i i1 i2] at hx; cases hx; rfl)] at e0
    have hp0 := h.perm
    rw [e0] at hp0
    rw [bigAt, e]
    have h2 : (cs ++ [(⟨F + p * G, C * G, true, true⟩ : Rc)]).Perm ((A ++ B) ++ [⟨F + p * G, C * G, true, true⟩]) := hp0.append_right _
    refine h2.trans ?_
    rw [List.append_assoc]
    exact List.Perm.append_left A List.perm_append_comm
  · have hi : i < pgs.length := by have := (List.getElem?_eq_some_iff.1 hb).1; omega
    rw [at_ i hi] at hb
    split at hb
    · cases hb
    · split at hb
      · cases hb
      · exact h.wf.blk i s us hb
  · have hi : i < pgs.length := by have := (List.getElem?_eq_some_iff.1 hb).1; omega
    rw [at_ i hi] at hb
    split at hb
    · rename_i e
      cases hb
      refine ⟨h1, by omega, fun j j1 j2 => ?_⟩
      rw [at_ j (by omega), if_neg (by omega), if_pos ⟨by omega, by omega⟩]
    · split at hb
      · cases hb
      · obtain ⟨k1, k2, k3⟩ := h.wf.big i c hb
        refine ⟨k1, by omega, fun j j1 j2 => ?_⟩
        have hr := k3 j j1 j2
        rw [at_ j (by omega)]
        have nf : ¬ (p ≤ j ∧ j < p + C) := fun hh => by rw [hf j hh.1 hh.2] at hr; cases hr
        rw [if_neg (fun e => nf ⟨by omega, by omega⟩), if_neg nf]
        exact hr
  · have hj : j < pgs.length := by have := (List.getElem?_eq_some_iff.1 hb).1; omega
    rw [at_ j hj] at hb
    split at hb
    · cases hb
    · split at hb
      · rename_i ne hr
        exact ⟨p, C, by omega, by omega, by rw [at_ p (by omega), if_pos rfl]⟩
      · obtain ⟨i, c, i1, i2, i3⟩ := h.wf.rest j hb
        refine ⟨i, c, i1, i2, ?_⟩
        rw [at_ i (by omega)]
        have nf : ¬ (p ≤ i ∧ i < p + C) := fun hh => by rw [hf i hh.1 hh.2] at i3; cases i3
        rw [if_neg (fun e => nf ⟨by omega, by omega⟩), if_neg nf]
        exact i3

/-- Something large is given back. -/
theorem Rel.unlarge {F G : Int} {cs : List Rc} {pgs : List Pg} (g0 : 1 ≤ G) (h : Rel F G cs pgs) {p c b : Nat} {u : Bool} (hx : pgs[p]? = some (.big c)) (hb : cs[b]? = some ⟨F + p * G, c * G, true, true⟩) :
    Rel F G ((cs.set b ⟨F + p * G, c * G, u, true⟩).filter (otherB F G p)) (fill pgs .free p c) := by
  obtain ⟨k1, k2, k3⟩ := h.wf.big p c hx
  have hp := (List.getElem?_eq_some_iff.1 hx).1
  have len := fill_length pgs .free p c
  have at_ := fun i hi => fill_at pgs .free p c i hi
  refine ⟨?_, ⟨fun i s us hh => ?_, fun i d hh => ?_, fun j hh => ?_⟩⟩
  · obtain ⟨A, B, e, ho⟩ := cellsP_split F G pgs p hp
    have e0 := e (.big c)
    rw [set_same hx] at e0
    have hp0 := h.perm
    rw [e0] at hp0
    have h1 : cs.Perm (A ++ (⟨F + p * G, c * G, true, true⟩ : Rc) :: B) := hp0
    have h2 := (perm_set (c' := ⟨F + p * G, c * G, u, true⟩) hb h1).filter (otherB F G p)
    have far : ∀ d ∈ A ++ B, otherB F G p d = true := fun d hd => by
      obtain ⟨i, x, hi, hxi, hcx⟩ := ho d hd
      have := (cell_pages g0 h.wf hxi hcx).1
      simp only [otherB, this, Bool.not_eq_true', decide_eq_false_iff_not]
      omega
    have here : otherB F G p ⟨F + p * G, c * G, u, true⟩ = false := by
      have := ofI_at (F := F) g0 p 0 (by omega) (by omega)
      rw [Int.add_zero] at this
      simp [otherB, this]
    rw [List.filter_append, List.filter_cons_of_neg (by rw [here]; exact Bool.false_ne_true), List.filter_eq_self.2 fun d hd => far d (List.mem_append_left _ hd), List.filter_eq_self.2 fun d hd => far d (List.mem_append_right _ hd)] at h2
    have e1 : cellsP F G (fill pgs .free p c) = A ++ B := by
      have e2 := e .free
      rw [show ((Pg.free).cells F G p ++ B) = B from rfl] at e2
      rw [← e2]
      refine cellsP_same (by rw [len, List.length_set]) fun i hi => ?_
      rw [len] at hi
      rw [List.getD_eq_getElem?_getD, List.getD_eq_getElem?_getD, at_ i hi]
      by_cases ei : i = p
      · subst ei
        rw [if_pos ⟨by omega, by omega⟩, List.getElem?_set_self hp]
      · rw [List.getElem?_set_ne (by omega)]
        split
        · rename_i hr
          rw [k3 i (by omega) hr.2]
          rfl
        · rfl
    rw [e1]
    exact h2
  · have hi : i < pgs.length := by have := (List.getElem?_eq_some_iff.1 hh).1; omega
    rw [at_ i hi] at hh
    split at hh
    · cases hh
    · exact h.wf.blk i s us hh
  · have hi : i < pgs.length := by have := (List.getElem?_eq_some_iff.1 hh).1; omega
    rw [at_ i hi] at hh
    split at hh
    · cases hh
    · rename_i nr
      obtain ⟨m1, m2, m3⟩ := h.wf.big i d hh
      refine ⟨m1, by omega, fun j j1 j2 => ?_⟩
      have hr := m3 j j1 j2
      rw [at_ j (by omega)]
      have nf : ¬ (p ≤ j ∧ j < p + c) := fun hj => by
        -- two large things do not share a page
        by_cases ep : j = p
        · subst ep; rw [hx] at hr; cases hr
        · rcases Nat.lt_or_ge i p with q | q
          · have := m3 p q (by omega)
            rw [hx] at this; cases this
          · exact nr ⟨q, by omega⟩
      rw [if_neg nf]
      exact hr
  · have hj : j < pgs.length := by have := (List.getElem?_eq_some_iff.1 hh).1; omega
    rw [at_ j hj] at hh
    split at hh
    · cases hh
    · rename_i nr
      obtain ⟨i, d, i1, i2, i3⟩ := h.wf.rest j hh
      refine ⟨i, d, i1, i2, ?_⟩
      rw [at_ i (by omega)]
      have nf : ¬ (p ≤ i ∧ i < p + c) := fun hi => by
        by_cases ep : i = p
        · subst ep
          rw [hx] at i3
          cases i3
          exact nr ⟨by omega, by omega⟩
        · have := k3 i (by omega) hi.2
          rw [i3] at this; cases this
      rw [if_neg nf]
      exact i3
end Go.Proofs.YthmhehehomieiaaGreat

/- Take and Give, as the document says them of pages; that they have one answer; and that the document's own space does just that. Of numbers and lists alone. -/
namespace Go.Proofs.YthmhehehomieiaaGreat

def Run (pgs : List Pg) (p C : Nat) : Prop := ∀ i : Nat, p ≤ i → i < p + C → pgs[i]? = some .free

def noT : Value := .tuple #[.int .i64 0, .bool false]
def yesV (n : Int) : Value := .tuple #[.int .i64 n, .bool true]

/-- Take of C pages. -/
def TakeLA (F G : Int) (pgs : List Pg) (C : Nat) (e : Value) (pgs' : List Pg) : Prop :=
  (∃ p : Nat, p + C ≤ pgs.length ∧ Run pgs p C ∧ (∀ q : Nat, q < p → ¬ Run pgs q C) ∧ e = yesV (F + p * G) ∧ pgs' = bigAt pgs p C) ∨
  ((∀ q : Nat, q + C ≤ pgs.length → ¬ Run pgs q C) ∧ e = noT ∧ pgs' = pgs)

theorem TakeLA.one {F G : Int} {pgs qs rs : List Pg} {C : Nat} {d e : Value} (h : TakeLA F G pgs C d qs) (k : TakeLA F G pgs C e rs) : d = e ∧ qs = rs := by
  rcases h with ⟨p, a1, a2, a3, rfl, rfl⟩ | ⟨a1, rfl, rfl⟩ <;> rcases k with ⟨q, b1, b2, b3, rfl, rfl⟩ | ⟨b1, rfl, rfl⟩
  · obtain rfl : p = q := by
      rcases Nat.lt_trichotomy p q with l | l | l
      · exact absurd a2 (b3 p l)
      · exact l
      · exact absurd b2 (a3 q l)
    exact ⟨rfl, rfl⟩
  · exact absurd a2 (b1 p a1)
  · exact absurd b2 (a1 q b1)
  · exact ⟨rfl, rfl⟩

theorem runB_iff {F G : Int} {cs : List Rc} {pgs : List Pg} (g0 : 1 ≤ G) (h : Rel F G cs pgs) {p C : Nat} (hC : p + C ≤ pgs.length) : runB F G cs p C = true ↔ Run pgs p C := by
  rw [runB, List.all_eq_true]
  constructor
  · intro a i i1 i2
    have := a (i - p) (List.mem_range.2 (by omega))
    rw [show p + (i - p) = i by omega] at this
    exact (freeB_iff g0 h.wf h.perm (by omega)).1 this
  · intro a k hk
    have := List.mem_range.1 hk
    exact (freeB_iff g0 h.wf h.perm (by omega)).2 (a (p + k) (by omega) (by omega))

theorem takeL_pages {F G : Int} {cs cs' : List Rc} {pgs : List Pg} (g0 : 1 ≤ G) (h : Rel F G cs pgs) {C : Nat} (h1 : 1 ≤ C) {e : Value} (ht : TakeL F G pgs.length cs C e cs') : ∃ pgs', TakeLA F G pgs C e pgs' ∧ Rel F G cs' pgs' := by
  rcases ht with ⟨p, a1, a2, a3, rfl, rfl⟩ | ⟨a1, rfl, rfl⟩
  · have r := (runB_iff g0 h a1).1 a2
    exact ⟨_, Or.inl ⟨p, a1, r, fun q hq hr => absurd ((runB_iff g0 h (by omega)).2 hr) (by rw [a3 q hq]; exact Bool.false_ne_true), rfl, rfl⟩, h.large a1 h1 r⟩
  · exact ⟨pgs, Or.inr ⟨fun q hq hr => absurd ((runB_iff g0 h hq).2 hr) (by rw [a1 q hq]; exact Bool.false_ne_true), rfl, rfl⟩, h⟩

/-- A block of that size, not pending, with a cell that is not in use. -/
def RoomP (pgs : List Pg) (ps : List Bool) (s : Int) (p : Nat) : Prop := ∃ us, pgs[p]? = some (.blk s us) ∧ ps[p]? = some false ∧ false ∈ us

/-- Take of a cell of a size. -/
def TakeSA (F G : Int) (ps : List Bool) (pgs : List Pg) (s : Int) (e : Value) (pgs' : List Pg) : Prop :=
  (∃ (p j : Nat) (us : List Bool), pgs[p]? = some (.blk s us) ∧ ps[p]? = some false ∧ us[j]? = some false ∧ (∀ i : Nat, i < j → us[i]? ≠ some false) ∧ (∀ q : Nat, q < p → ¬ RoomP pgs ps s q) ∧ e = yesV (F + p * G + j * s) ∧ pgs' = pgs.set p (.blk s (us.set j true))) ∨
  ((∀ q : Nat, ¬ RoomP pgs ps s q) ∧
    ((∃ p : Nat, pgs[p]? = some .free ∧ (∀ q : Nat, q < p → pgs[q]? ≠ some .free) ∧ e = yesV (F + p * G) ∧ pgs' = pgs.set p (.blk s (us0 (G / s).toNat))) ∨
    ((∀ q : Nat, pgs[q]? ≠ some .free) ∧ e = noT ∧ pgs' = pgs)))

theorem TakeSA.one {F G : Int} {ps : List Bool} {pgs qs rs : List Pg} {s : Int} {d e : Value} (h : TakeSA F G ps pgs s d qs) (k : TakeSA F G ps pgs s e rs) : d = e ∧ qs = rs := by
  rcases h with ⟨p, j, us, a1, a2, a3, a4, a5, rfl, rfl⟩ | ⟨a0, a⟩ <;> rcases k with ⟨q, i, vs, b1, b2, b3, b4, b5, rfl, rfl⟩ | ⟨b0, b⟩
  · obtain rfl : p = q := by
      rcases Nat.lt_trichotomy p q with l | l | l
      · exact absurd ⟨us, a1, a2, List.mem_of_getElem? a3⟩ (b5 p l)
      · exact l
      · exact absurd ⟨vs, b1, b2, List.mem_of_getElem? b3⟩ (a5 q l)
    rw [a1] at b1
    cases b1
    obtain rfl : j = i := by
      rcases Nat.lt_trichotomy j i with l | l | l
      · exact absurd a3 (b4 j l)
      · exact l
      · exact absurd b3 (a4 i l)
    exact ⟨rfl, rfl⟩
  · exact absurd ⟨us, a1, a2, List.mem_of_getElem? a3⟩ (b0 p)
  · exact absurd ⟨vs, b1, b2, List.mem_of_getElem? b3⟩ (a0 q)
  · rcases a with ⟨p, a1, a2, rfl, rfl⟩ | ⟨a1, rfl, rfl⟩ <;> rcases b with ⟨q, b1, b2, rfl, rfl⟩ | ⟨b1, rfl, rfl⟩
    · obtain rfl : p = q := by
        rcases Nat.lt_trichotomy p q with l | l | l
        · exact absurd a1 (b2 p l)
        · exact l
        · exact absurd b1 (a2 q l)
      exact ⟨rfl, rfl⟩
    · exact absurd a1 (b1 p)
    · exact absurd b1 (a1 q)
    · exact ⟨rfl, rfl⟩

/-- Cells that may be taken are cells of blocks that have room. -/
theorem cand_blk {F G : Int} {cs : List Rc} {pgs : List Pg} (g0 : 1 ≤ G) (h : Rel F G cs pgs) {ps : List Bool} (hl : ps.length = pgs.length) {s : Int} {c : Rc} (hc : c ∈ cs) :
    candB F G ps s c = true ↔ ∃ (p j : Nat) (us : List Bool), pgs[p]? = some (.blk s us) ∧ ps[p]? = some false ∧ us[j]? = some false ∧ c = ⟨F + p * G + j * s, s, false, false⟩ := by
  constructor
  · intro hb
    simp only [candB, Bool.and_eq_true, Bool.not_eq_true', decide_eq_true_eq] at hb
    obtain ⟨⟨⟨b1, b2⟩, b3⟩, b4⟩ := hb
    obtain ⟨p, x, hx, hcx⟩ := mem_cellsP.1 (h.perm.mem_iff.1 hc)
    have hp := (List.getElem?_eq_some_iff.1 hx).1
    have e1 := (cell_pages g0 h.wf hx hcx).1
    rw [e1, Int.toNat_natCast] at b4
    cases x with
    | free => simp [Pg.cells] at hcx
    | rest => simp [Pg.cells] at hcx
    | big m => obtain rfl : c = ⟨F + p * G, m * G, true, true⟩ := by simpa [Pg.cells] using hcx
               cases b1
    | blk s' us =>
      obtain ⟨j, u, hu, rfl⟩ := mem_blk.1 hcx
      obtain rfl : s' = s := b3
      obtain rfl : u = false := b1
      have hpp : ps[p]? = some ps[p] := List.getElem?_eq_getElem (by omega)
      rw [hpp] at b4
      exact ⟨p, j, us, hx, by rw [hpp]; exact congrArg some b4, hu, rfl⟩
  · rintro ⟨p, j, us, hx, hps, hu, rfl⟩
    have e1 := (cell_pages (F := F) (c := ⟨F + p * G + j * s, s, false, false⟩) g0 h.wf hx (mem_blk.2 ⟨j, false, hu, rfl⟩)).1
    have e1 : ofI F G (F + p * G + j * s) = p := e1
    simp [candB, e1, hps]

theorem takeS_pages {F G : Int} {cs cs' : List Rc} {pgs : List Pg} (g0 : 1 ≤ G) (h : Rel F G cs pgs) {ps : List Bool} (hl : ps.length = pgs.length) {s : Int} (s0 : 4 ≤ s) (s1 : s ≤ G / 2) {e : Value} (ht : TakeS F G pgs.length ps cs s e cs') :
    ∃ pgs', TakeSA F G ps pgs s e pgs' ∧ Rel F G cs' pgs' := by
  have room : ∀ (q : Nat) (us : List Bool) (i : Nat), pgs[q]? = some (.blk s us) → ps[q]? = some false → us[i]? = some false → (⟨F + q * G + i * s, s, false, false⟩ : Rc) ∈ cs ∧ candB F G ps s ⟨F + q * G + i * s, s, false, false⟩ = true := fun q us i h1 h2 h3 => by
    have m : (⟨F + q * G + i * s, s, false, false⟩ : Rc) ∈ cs := h.perm.mem_iff.2 (mem_cellsP.2 ⟨q, _, h1, mem_blk.2 ⟨i, false, h3, rfl⟩⟩)
    exact ⟨m, (cand_blk g0 h hl m).2 ⟨q, i, us, h1, h2, h3, rfl⟩⟩
  rcases ht with ⟨b, c, a1, a2, a3, rfl, rfl⟩ | ⟨a0, a⟩
  · obtain ⟨p, j, us, hx, hps, hu, rfl⟩ := (cand_blk g0 h hl (List.mem_of_getElem? a1)).1 a2
    obtain ⟨_, _, hlen, _⟩ := h.wf.blk p s us hx
    refine ⟨_, Or.inl ⟨p, j, us, hx, hps, hu, fun i hi hui => ?_, fun q hq => ?_, rfl, rfl⟩, h.reuse hx hu a1⟩
    · obtain ⟨m, hb⟩ := room p us i hx hps hui
      have l : F + (p : Int) * G + (j : Int) * s ≤ F + (p : Int) * G + (i : Int) * s := a3 _ m hb
      have := Int.mul_lt_mul_of_pos_right (show (i : Int) < j by omega) (show 0 < s by omega)
      omega
    · rintro ⟨vs, b1, b2, b3⟩
      obtain ⟨i, hi, e⟩ := List.getElem_of_mem b3
      have hv : vs[i]? = some false := by rw [List.getElem?_eq_getElem hi, e]
      obtain ⟨m, hb⟩ := room q vs i b1 b2 hv
      have l : F + (p : Int) * G + (j : Int) * s ≤ F + (q : Int) * G + (i : Int) * s := a3 _ m hb
      obtain ⟨_, _, vlen, _⟩ := h.wf.blk q s vs b1
      obtain ⟨p0, p1⟩ := in_page s0 vlen hi
      have js : (0 : Int) ≤ (j : Int) * s := Int.mul_nonneg (by omega) (by omega)
      have h3 := Int.mul_le_mul_of_nonneg_right (show (q : Int) + 1 ≤ p by omega) (show 0 ≤ G by omega)
      rw [Int.add_mul, Int.one_mul] at h3
      omega
  · have none : ∀ q, ¬ RoomP pgs ps s q := fun q => by
      rintro ⟨vs, b1, b2, b3⟩
      obtain ⟨i, hi, e⟩ := List.getElem_of_mem b3
      obtain ⟨m, hb⟩ := room q vs i b1 b2 (by rw [List.getElem?_eq_getElem hi, e])
      rw [a0 _ m] at hb
      cases hb
    rcases a with ⟨p, b1, b2, b3, rfl, rfl⟩ | ⟨b1, rfl, rfl⟩
    · have hx := (freeB_iff g0 h.wf h.perm b1).1 b2
      exact ⟨_, Or.inr ⟨none, Or.inl ⟨p, hx, fun q hq hf => absurd ((freeB_iff g0 h.wf h.perm (by omega)).2 hf) (by rw [b3 q hq]; exact Bool.false_ne_true), rfl, rfl⟩⟩, h.fresh hx s0 s1⟩
    · exact ⟨pgs, Or.inr ⟨none, Or.inr ⟨fun q hf => absurd ((freeB_iff g0 h.wf h.perm (List.getElem?_eq_some_iff.1 hf).1).2 hf) (by rw [b1 q (List.getElem?_eq_some_iff.1 hf).1]; exact Bool.false_ne_true), rfl, rfl⟩⟩, h⟩
end Go.Proofs.YthmhehehomieiaaGreat

/- Give, as the document says it of pages; that it has one answer; and that the document's own space does just that. Of numbers and lists alone. -/
namespace Go.Proofs.YthmhehehomieiaaGreat

/-- Give of a place. -/
def GiveA (F G : Int) (ps : List Bool) (pgs : List Pg) (n : Int) (ok : Bool) (pgs' : List Pg) (ps' : List Bool) : Prop :=
  ((cellsP F G pgs).find? (hitB n) = none ∧ ok = false ∧ pgs' = pgs ∧ ps' = ps) ∨
  (∃ (p j : Nat) (s : Int) (us : List Bool), pgs[p]? = some (.blk s us) ∧ us[j]? = some true ∧ n = F + p * G + j * s ∧ ok = true ∧
    ((true ∈ us.set j false ∧ pgs' = pgs.set p (.blk s (us.set j false)) ∧ ps' = ps) ∨ (true ∉ us.set j false ∧ pgs' = pgs.set p .free ∧ ps' = ps.set p false))) ∨
  (∃ p c : Nat, pgs[p]? = some (.big c) ∧ n = F + p * G ∧ ok = true ∧ pgs' = fill pgs .free p c ∧ ps' = ps.set p false)

theorem GiveA.one {F G : Int} {ps ps1 ps2 : List Bool} {pgs qs rs : List Pg} {n : Int} {d e : Bool} (g0 : 1 ≤ G) (wf : WF G pgs) (h : GiveA F G ps pgs n d qs ps1) (k : GiveA F G ps pgs n e rs ps2) : d = e ∧ qs = rs ∧ ps1 = ps2 := by
  have hitb : ∀ (p j : Nat) (s : Int) (us : List Bool), pgs[p]? = some (.blk s us) → us[j]? = some true → n = F + p * G + j * s → (⟨n, s, true, false⟩ : Rc) ∈ cellsP F G pgs := fun p j s us h1 h2 h3 => by
    subst h3
    exact mem_cellsP.2 ⟨p, _, h1, mem_blk.2 ⟨j, true, h2, rfl⟩⟩
  have hitl : ∀ p c : Nat, pgs[p]? = some (.big c) → n = F + p * G → (⟨n, c * G, true, true⟩ : Rc) ∈ cellsP F G pgs := fun p c h1 h3 => by
    subst h3
    exact mem_cellsP.2 ⟨p, _, h1, by simp [Pg.cells]⟩
  have no : ∀ c : Rc, c ∈ cellsP F G pgs → c.pos = n → c.used = true → (cellsP F G pgs).find? (hitB n) ≠ none := fun c hc h1 h2 hn => by
    rw [List.find?_eq_none] at hn
    exact hn c hc (by simp [hitB, h1, h2])
  have pg : ∀ (p : Nat) (x : Pg) (c : Rc), pgs[p]? = some x → c ∈ x.cells F G p → c.pos = n → ofI F G n = p := fun p x c h1 h2 h3 => by rw [← h3]; exact (cell_pages g0 wf h1 h2).1
  rcases h with ⟨a1, rfl, rfl, rfl⟩ | ⟨p, j, s, us, a1, a2, a3, rfl, a4⟩ | ⟨p, c, a1, a2, rfl, rfl, rfl⟩ <;> rcases k with ⟨b1, rfl, rfl, rfl⟩ | ⟨q, i, t, vs, b1, b2, b3, rfl, b4⟩ | ⟨q, m, b1, b2, rfl, rfl, rfl⟩
  · exact ⟨rfl, rfl, rfl⟩
  · exact absurd a1 (no _ (hitb q i t vs b1 b2 b3) rfl rfl)
  · exact absurd a1 (no _ (hitl q m b1 b2) rfl rfl)
  · exact absurd b1 (no _ (hitb p j s us a1 a2 a3) rfl rfl)
  · have e1 := pg p _ ⟨n, s, true, false⟩ a1 (by rw [a3]; exact mem_blk.2 ⟨j, true, a2, rfl⟩) rfl
    have e2 := pg q _ ⟨n, t, true, false⟩ b1 (by rw [b3]; exact mem_blk.2 ⟨i, true, b2, rfl⟩) rfl
    obtain rfl : p = q := by omega
    rw [a1] at b1
    cases b1
    obtain ⟨s0, _⟩ := wf.blk p s us a1
    obtain rfl : j = i := by
      have e3 : (j : Int) * s = (i : Int) * s := by omega
      have := Int.eq_of_mul_eq_mul_right (show s ≠ 0 by omega) e3
      omega
    rcases a4 with ⟨a5, rfl, rfl⟩ | ⟨a5, rfl, rfl⟩ <;> rcases b4 with ⟨b5, rfl, rfl⟩ | ⟨b5, rfl, rfl⟩
    · exact ⟨rfl, rfl, rfl⟩
    · exact absurd a5 b5
    · exact absurd b5 a5
    · exact ⟨rfl, rfl, rfl⟩
  · have e := pos_unique g0 wf (hitb p j s us a1 a2 a3) (hitl q m b1 b2) rfl
    cases e
  · exact absurd b1 (no _ (hitl p c a1 a2) rfl rfl)
  · have e := pos_unique g0 wf (hitl p c a1 a2) (hitb q i t vs b1 b2 b3) rfl
    cases e
  · have e1 := pg p _ ⟨n, c * G, true, true⟩ a1 (by rw [a2]; simp [Pg.cells]) rfl
    have e2 := pg q _ ⟨n, m * G, true, true⟩ b1 (by rw [b2]; simp [Pg.cells]) rfl
    obtain rfl : p = q := by omega
    rw [a1] at b1
    cases b1
    exact ⟨rfl, rfl, rfl⟩

theorem someB_perm {F G n : Int} {cs ds : List Rc} (h : cs.Perm ds) : someB F G n cs = someB F G n ds := by
  have : ∀ xs ys : List Rc, xs.Perm ys → someB F G n xs = true → someB F G n ys = true := fun xs ys hp hx => by
    rw [someB, List.any_eq_true] at hx ⊢
    obtain ⟨c, hc, hb⟩ := hx
    exact ⟨c, hp.mem_iff.1 hc, hb⟩
  cases e1 : someB F G n cs <;> cases e2 : someB F G n ds
  · rfl
  · rw [this ds cs h.symm e2] at e1; cases e1
  · rw [this cs ds h e1] at e2; cases e2
  · rfl

/-- What is in use of what begins in a page that has turned into y. -/
theorem someB_page {F G : Int} {pgs : List Pg} (g0 : 1 ≤ G) (wf : WF G pgs) {p : Nat} (hp : p < pgs.length) {ds : List Rc} {y : Pg} (hd : ds.Perm (cellsP F G (pgs.set p y))) (hy : ∀ c ∈ y.cells F G p, ofI F G c.pos = p) :
    someB F G p ds = (y.cells F G p).any Rc.used := by
  obtain ⟨A, B, e, ho⟩ := cellsP_split F G pgs p hp
  rw [someB_perm hd, e]
  have far : ∀ c ∈ A ++ B, (decide (ofI F G c.pos = p) && c.used) = false := fun c hc => by
    obtain ⟨i, x, hi, hx, hcx⟩ := ho c hc
    have := (cell_pages g0 wf hx hcx).1
    rw [this, decide_eq_false (by omega), Bool.false_and]
  unfold someB
  have zA : (A.any fun c => decide (ofI F G c.pos = p) && c.used) = false := List.any_eq_false.2 fun c hc => by rw [far c (List.mem_append_left _ hc)]; exact Bool.false_ne_true
  have zB : (B.any fun c => decide (ofI F G c.pos = p) && c.used) = false := List.any_eq_false.2 fun c hc => by rw [far c (List.mem_append_right _ hc)]; exact Bool.false_ne_true
  rw [List.any_append, List.any_append, zA, zB, Bool.false_or, Bool.or_false]
  cases e1 : (y.cells F G p).any Rc.used
  · rw [List.any_eq_false] at e1 ⊢
    intro c hc hb
    simp only [Bool.and_eq_true] at hb
    exact e1 c hc hb.2
  · rw [List.any_eq_true] at e1 ⊢
    obtain ⟨c, hc, hb⟩ := e1
    exact ⟨c, hc, by rw [hb, decide_eq_true (hy c hc)]; rfl⟩

theorem blk_any {F G : Int} {p : Nat} {s : Int} {us : List Bool} : ((Pg.blk s us).cells F G p).any Rc.used = true ↔ true ∈ us := by
  rw [List.any_eq_true]
  constructor
  · rintro ⟨c, hc, hb⟩
    obtain ⟨j, u, hu, rfl⟩ := mem_blk.1 hc
    obtain rfl : u = true := hb
    exact List.mem_of_getElem? hu
  · intro h
    obtain ⟨j, hj, e⟩ := List.getElem_of_mem h
    exact ⟨⟨F + p * G + j * s, s, true, false⟩, mem_blk.2 ⟨j, true, by rw [List.getElem?_eq_getElem hj, e], rfl⟩, rfl⟩

theorem give_pages {F G : Int} {cs : List Rc} {pgs : List Pg} (g0 : 1 ≤ G) (h : Rel F G cs pgs) (ps : List Bool) (n : Int) :
    ∃ pgs', GiveA F G ps pgs n (cs.findIdx? (hitB n)).isSome pgs' (giveP F G n cs ps) ∧ Rel F G (giveC F G n cs) pgs' := by
  cases hf : cs.findIdx? (hitB n) with
  | none =>
    refine ⟨pgs, Or.inl ⟨?_, rfl, rfl, by simp only [giveP, hf]⟩, by simp only [giveC, hf]; exact h⟩
    rw [← find_eq g0 h n, List.find?_eq_none]
    rw [List.findIdx?_eq_none_iff] at hf
    exact fun c hc => by rw [hf c hc]; exact Bool.false_ne_true
  | some i =>
    obtain ⟨hil, hhit, _⟩ := List.findIdx?_eq_some_iff_getElem.1 hf
    have hc : cs[i]? = some cs[i] := List.getElem?_eq_getElem hil
    generalize cs[i] = c at hc hhit
    simp only [hitB, Bool.and_eq_true, decide_eq_true_eq] at hhit
    obtain ⟨rfl, hu⟩ := hhit
    have em := modify_set cs i c (fun c => { c with used := false }) hc
    simp only [giveC, giveP, hf, em]
    obtain ⟨p, x, hx, hcx⟩ := mem_cellsP.1 (h.perm.mem_iff.1 (List.mem_of_getElem? hc))
    have hp := (List.getElem?_eq_some_iff.1 hx).1
    have e1 := (cell_pages g0 h.wf hx hcx).1
    rw [e1, Int.toNat_natCast]
    cases x with
    | free => simp [Pg.cells] at hcx
    | rest => simp [Pg.cells] at hcx
    | big m =>
      obtain rfl : c = ⟨F + p * G, m * G, true, true⟩ := by simpa [Pg.cells] using hcx
      have hd : someB F G p (cs.set i ⟨F + p * G, m * G, false, true⟩) = false := by
        obtain ⟨A, B, e, ho⟩ := cellsP_split F G pgs p hp
        have e0 := e (.big m)
        rw [set_same hx] at e0
        have hp0 := h.perm
        rw [e0] at hp0
        rw [someB_perm (perm_set (c' := ⟨F + p * G, m * G, false, true⟩) hc hp0), someB, List.any_eq_false]
        intro d hd hb
        simp only [Bool.and_eq_true, decide_eq_true_eq] at hb
        rcases List.mem_append.1 hd with hd | hd
        · obtain ⟨q, y, hq, hy, hdy⟩ := ho d (List.mem_append_left _ hd)
          have := (cell_pages g0 h.wf hy hdy).1
          omega
        · rcases List.mem_cons.1 hd with rfl | hd
          · cases hb.2
          · obtain ⟨q, y, hq, hy, hdy⟩ := ho d (List.mem_append_right _ hd)
            have := (cell_pages g0 h.wf hy hdy).1
            omega
      rw [hd, if_neg Bool.false_ne_true, if_neg Bool.false_ne_true]
      exact ⟨_, Or.inr (Or.inr ⟨p, m, hx, rfl, rfl, rfl, rfl⟩), h.unlarge g0 hx hc⟩
    | blk s us =>
      obtain ⟨j, u, hj, rfl⟩ := mem_blk.1 hcx
      obtain rfl : u = true := hu
      obtain ⟨k1, _, k3, _⟩ := h.wf.blk p s us hx
      have hd := someB_page g0 h.wf hp (perm_turn h.perm hx hj hc false) fun c hc => by
        obtain ⟨i, v, hv, rfl⟩ := mem_blk.1 hc
        have hi := (List.getElem?_eq_some_iff.1 hv).1
        rw [List.length_set] at hi
        obtain ⟨p0, p1⟩ := in_page k1 k3 hi
        exact ofI_at g0 p _ p0 (by omega)
      by_cases ht : true ∈ us.set j false
      · rw [hd, if_pos (blk_any.2 ht), if_pos (blk_any.2 ht)]
        exact ⟨_, Or.inr (Or.inl ⟨p, j, s, us, hx, hj, rfl, rfl, Or.inl ⟨ht, rfl, rfl⟩⟩), h.lessen hx hj hc ht⟩
      · rw [hd, if_neg (fun e => ht (blk_any.1 e)), if_neg (fun e => ht (blk_any.1 e))]
        exact ⟨_, Or.inr (Or.inl ⟨p, j, s, us, hx, hj, rfl, rfl, Or.inr ⟨ht, rfl, rfl⟩⟩), h.empty g0 hx hj hc⟩

/-- Nothing: pages that are all free. -/
theorem Rel.new (F G : Int) (N : Nat) : Rel F G [] (List.replicate N .free) := by
  have no : ∀ (i : Nat) (x : Pg), (List.replicate N Pg.free)[i]? = some x → x = .free := fun i x h => by
    rw [List.getElem?_replicate] at h
    split at h
    · cases h; rfl
    · cases h
  refine ⟨?_, ⟨fun i s us h => ?_, fun i c h => ?_, fun j h => ?_⟩⟩
  · have : cellsP F G (List.replicate N .free) = [] := by
      rw [List.eq_nil_iff_forall_not_mem]
      intro c hc
      obtain ⟨i, x, hx, hcx⟩ := mem_cellsP.1 hc
      rw [no i x hx] at hcx
      simp [Pg.cells] at hcx
    rw [this]
  · cases no i _ h
  · cases no i _ h
  · cases no j _ h
end Go.Proofs.YthmhehehomieiaaGreat

/- The document's space, said of pages: what lies in memory, and the contracts of its calls. -/
namespace Go.Proofs.YthmhehehomieiaaGreat
open Go.RowKit


theorem cellsP_few {F G : Int} {pgs : List Pg} (g1 : G ≤ 256) (wf : WF G pgs) : (cellsP F G pgs).length ≤ pgs.length * 64 := by
  unfold cellsP
  rw [List.length_flatMap]
  have one : ∀ i ∈ List.range pgs.length, ((pgs.getD i .free).cells F G i).length ≤ 64 := fun i hi => by
    have hi := List.mem_range.1 hi
    have hx : pgs[i]? = some pgs[i] := List.getElem?_eq_getElem hi
    rw [List.getD_eq_getElem?_getD, hx, Option.getD_some]
    generalize pgs[i] = x at hx
    cases x with
    | free => simp [Pg.cells]
    | rest => simp [Pg.cells]
    | big m => simp [Pg.cells]
    | blk s us =>
      obtain ⟨s0, s1, hl, _⟩ := wf.blk i s us hx
      have h1 : G / s ≤ G / 4 := by
        refine Int.le_ediv_of_mul_le (by omega) ?_
        have h1 := Int.mul_le_mul_of_nonneg_left s0 (show 0 ≤ G / s by omega)
        have h2 := Int.ediv_mul_le G (show s ≠ 0 by omega)
        omega
      show ((List.range us.length).map _).length ≤ 64
      rw [List.length_map, List.length_range]
      omega
  have sum : ∀ l : List Nat, (∀ i ∈ l, ((pgs.getD i .free).cells F G i).length ≤ 64) → (l.map fun i => ((pgs.getD i .free).cells F G i).length).sum ≤ l.length * 64 := by
    intro l
    induction l with
    | nil => intro _; simp
    | cons i l ih =>
      intro h
      have h1 := h i (List.mem_cons_self ..)
      have h2 := ih fun k hk => h k (List.mem_cons_of_mem _ hk)
      simp only [List.map_cons, List.sum_cons, List.length_cons]
      omega
  have := sum _ one
  rwa [List.length_range] at this

theorem Rel.pages {F G : Int} {cs : List Rc} {pgs : List Pg} (g0 : 1 ≤ G) (h : Rel F G cs pgs) {N : Nat} (hN : pgs.length = N) : ∀ c ∈ cs, 0 ≤ ofI F G c.pos ∧ ofI F G c.pos < N := fun c hc => by
  obtain ⟨i, x, hx, hcx⟩ := mem_cellsP.1 (h.perm.mem_iff.1 hc)
  have := (cell_pages g0 h.wf hx hcx).1
  have := (List.getElem?_eq_some_iff.1 hx).1
  omega

theorem Rel.few {F G : Int} {cs : List Rc} {pgs : List Pg} (g1 : G ≤ 256) (h : Rel F G cs pgs) (hN : pgs.length ≤ 64) : cs.length ≤ 900000 := by
  have := cellsP_few (F := F) g1 h.wf
  rw [h.perm.length_eq]
  omega



/-- Take, as the document says it of pages. -/
def TakeA (F G : Int) (ps : List Bool) (pgs : List Pg) (n : Int) (e : Value) (pgs' : List Pg) : Prop :=
  (n < 1 ∧ e = noT ∧ pgs' = pgs) ∨ (¬ n < 1 ∧ G / 2 < roundI n ∧ TakeLA F G pgs (pagesI G n).toNat e pgs') ∨ (¬ n < 1 ∧ ¬ G / 2 < roundI n ∧ TakeSA F G ps pgs (roundI n) e pgs')

theorem TakeA.one {F G : Int} {ps : List Bool} {pgs qs rs : List Pg} {n : Int} {d e : Value} (h : TakeA F G ps pgs n d qs) (k : TakeA F G ps pgs n e rs) : d = e ∧ qs = rs := by
  rcases h with ⟨a1, rfl, rfl⟩ | ⟨a1, a2, a3⟩ | ⟨a1, a2, a3⟩ <;> rcases k with ⟨b1, rfl, rfl⟩ | ⟨b1, b2, b3⟩ | ⟨b1, b2, b3⟩
  · exact ⟨rfl, rfl⟩
  · exact absurd a1 b1
  · exact absurd a1 b1
  · exact absurd b1 a1
  · exact a3.one b3
  · exact absurd a2 b2
  · exact absurd b1 a1
  · exact absurd b2 a2
  · exact a3.one b3


theorem TakeLA.length {F G : Int} {pgs pgs' : List Pg} {C : Nat} {e : Value} (h : TakeLA F G pgs C e pgs') : pgs'.length = pgs.length := by
  rcases h with ⟨p, _, _, _, _, rfl⟩ | ⟨_, _, rfl⟩
  · rw [bigAt, List.length_set, fill_length]
  · rfl

theorem TakeSA.length {F G : Int} {ps : List Bool} {pgs pgs' : List Pg} {s : Int} {e : Value} (h : TakeSA F G ps pgs s e pgs') : pgs'.length = pgs.length := by
  rcases h with ⟨p, j, us, _, _, _, _, _, _, rfl⟩ | ⟨_, ⟨p, _, _, _, rfl⟩ | ⟨_, _, rfl⟩⟩
  · rw [List.length_set]
  · rw [List.length_set]
  · rfl


theorem GiveA.length {F G : Int} {ps ps' : List Bool} {pgs pgs' : List Pg} {n : Int} {ok : Bool} (h : GiveA F G ps pgs n ok pgs' ps') : pgs'.length = pgs.length ∧ ps'.length = ps.length := by
  rcases h with ⟨_, _, rfl, rfl⟩ | ⟨p, j, s, us, _, _, _, _, ⟨_, rfl, rfl⟩ | ⟨_, rfl, rfl⟩⟩ | ⟨p, c, _, _, _, rfl, rfl⟩
  · exact ⟨rfl, rfl⟩
  · exact ⟨List.length_set .., rfl⟩
  · exact ⟨List.length_set .., List.length_set ..⟩
  · exact ⟨fill_length .., List.length_set ..⟩






end Go.Proofs.YthmhehehomieiaaGreat

/- What is asked of the program's space (package mature), as one structure: the statements' walks lean on it alone. And: two lists of the same numbers are the same. -/
namespace Go.Proofs.YthmhehehomieiaaGreat
open Go.RowKit

def pendV (ps : List Bool) : Value := match ps.findIdx? id with
  | some i => .tuple #[.int .i64 i, .bool true]
  | none => .tuple #[.int .i64 0, .bool false]

def wasB (ps : List Bool) (n : Int) : Bool := decide (0 ≤ n) && (ps[n.toNat]?).getD false

def doneP (ps : List Bool) (n : Int) : List Bool := if wasB ps n then ps.set n.toNat false else ps

def pageV (F G : Int) (N : Nat) (n : Int) : Value := if 0 ≤ n ∧ n < N then .tuple #[.int .i64 (F + n * G), .int .i64 (F + n * G + G)] else .tuple #[.int .i64 0, .int .i64 0]



theorem starts_few {F G f t : Int} {pgs : List Pg} (g1 : G ≤ 256) (wf : WF G pgs) (hN : pgs.length ≤ 64) : (startsP F G pgs f t).length ≤ 4096 := by
  rw [startsP, List.length_map]
  have := cellsP_few (F := F) g1 wf
  have := List.length_filter_le (inR f t) (cellsP F G pgs)
  omega

set_option maxHeartbeats 1000000 in
theorem ints_same (B1 B2 : Nat) (u1 u2 : Value) (ys : List Int) (w : World) (h1 : OwnI w B1 u1 ys) (h2 : OwnI w B2 u2 ys) (hl : ys.length ≤ 4096) :
    Calls Tryz.prog 49 #[u1, u2] w fun e w' => e = .returned (.bool true) ∧ Below w.heap.size w w' := by
  obtain ⟨a1, cap1, rfl, c1⟩ := h1.at_
  obtain ⟨a2, cap2, rfl, c2⟩ := h2.at_
  have C1 := Lib.hid c1
  have C2 := Lib.hid c2
  clear c1 c2 h1 h2
  go_enter Tryz.func49, Tryz.ntmps49
  go_wp2_with fail
  go_loopw [5] (fun s wr => ∃ j m : Nat, j ≤ ys.length ∧ s = .int .i64 j ∧ wr = w.drewN m) (fun s _ => ys.length - (intOf s).toNat)
  case atStart => exact ⟨0, 0, Nat.zero_le _, rfl, rfl⟩
  case round =>
    obtain ⟨j, m, hj, rfl, rfl⟩ := hrel
    by_cases hlt : j < ys.length
    · have hy : ys[j]? = some ys[j] := List.getElem?_eq_getElem hlt
      generalize ys[j] = y at hy
      obtain ⟨g1, rfl, _, _, d1, _⟩ := C1.out j y hy
      obtain ⟨g2, rfl, _, _, d2, _⟩ := C2.out j y hy
      have x1 := d1 j y hy
      have x2 := d2 j y hy
      have j0 : (0 : Int) ≤ (j : Int) := by omega
      have j1 : (j : Int) < (ys.length : Int) := by omega
      clear d1 d2 hy
      go_wp2_with fail
      go_quiet (fail)
      go_wp2
      go_roundw
      case rel => exact ⟨j + 1, _, by omega, by go_num, rfl⟩
      case measure => simp [intOf]; omega
    · obtain rfl : j = ys.length := by omega
      go_wp2
      go_ret
      exact ⟨rfl, below_drewN _ _⟩
end Go.Proofs.YthmhehehomieiaaGreat

/- Contract of class.Round. -/
namespace Go.Proofs.YthmhehehomieiaaGreat
open Go.RowKit

set_option maxHeartbeats 1000000 in
theorem round_any (n : Int) (w : World) :
    Calls Tryz.prog 154 #[.int .i64 n] w fun e w' => e = .returned (.int .i64 (roundI n)) ∧ w = w' := by
  go_enter Tryz.func154, Tryz.ntmps154
  go_wp2_with fail
  go_loopw [3] (fun s wr => ∃ (k : Nat) (h : Int), s = .int .i64 (2 * h) ∧ Far k (2 * h) ∧ roundI n = rnd k (2 * h) n ∧ w = wr) (fun s _ => (1099511627776 - intOf s).toNat)
  case atStart => exact ⟨38, 2, rfl, far_start, rfl, rfl⟩
  case round =>
    obtain ⟨k, h, rfl, hf, hr, rfl⟩ := hrel
    have hq : (2 * h).tdiv 2 = h := Int.mul_tdiv_cancel_left h (by decide)
    have hd : (2 * h) / 2 = h := by omega
    cases k with
    | zero =>
      have hf : 2 * h = 1099511627776 := hf
      have HR := Lib.hid hr
      clear hr
      obtain rfl : h = 549755813888 := by omega
      go_wp2
      go_ret
      exact ⟨by rw [HR.out]; rfl, rfl⟩
    | succ k =>
      obtain ⟨f0, f1, f2, f3⟩ := hf
      have HR := Lib.hid hr
      have HF := Lib.hid f3
      clear hr f3
      by_cases h1 : n ≤ 2 * h
      · have E := Lib.hid (HR.out.trans (rnd_first h1))
        go_wp2
        go_ret
        exact ⟨by rw [E.out]; rfl, rfl⟩
      · by_cases h2 : n ≤ 2 * h + h
        · have E := Lib.hid (HR.out.trans (rnd_second h1 (by omega)))
          rw [hd] at E
          go_wp2
          go_ret
          exact ⟨by rw [E.out]; rfl, rfl⟩
        · have E := Lib.hid (HR.out.trans (rnd_more h1 (by omega)))
          go_wp2
          go_roundw
          case rel => exact ⟨k, 2 * h, by go_num, HF.out, E.out, by trivial⟩
          case measure => simp [intOf]; omega

end Go.Proofs.YthmhehehomieiaaGreat

/- Contracts of class.Cells, class.Pages and class.Large. -/
namespace Go.Proofs.YthmhehehomieiaaGreat
open Go.RowKit

def cellsI (p s : Int) : Int := if p < 1 ∨ s < 1 then 0 else p / s
def largeB (p w : Int) : Bool := decide (p.tdiv 2 < roundI w)

set_option maxHeartbeats 1000000 in
theorem cells_any (p s : Int) (w : World) (hp : p ≤ 9223372036854775807) :
    Calls Tryz.prog 170 #[.int .i64 p, .int .i64 s] w fun e w' => e = .returned (.int .i64 (cellsI p s)) ∧ w = w' := by
  by_cases h0 : p < 1
  · have E := Lib.hid (show cellsI p s = 0 from if_pos (Or.inl h0))
    go_enter Tryz.func170, Tryz.ntmps170
    go_wp2
    go_ret
    exact ⟨by rw [E.out]; rfl, rfl⟩
  · by_cases h1 : s < 1
    · have E := Lib.hid (show cellsI p s = 0 from if_pos (Or.inr h1))
      go_enter Tryz.func170, Tryz.ntmps170
      go_wp2
      go_ret
      exact ⟨by rw [E.out]; rfl, rfl⟩
    · have E := Lib.hid (show cellsI p s = p / s from if_neg (by omega))
      have hq : p.tdiv s = p / s := tdiv_of (by omega)
      have q0 : 0 ≤ p / s := Int.ediv_nonneg (by omega) (by omega)
      have q1 : p / s ≤ p := Int.ediv_le_self s (by omega)
      go_enter Tryz.func170, Tryz.ntmps170
      go_wp2
      go_ret
      exact ⟨by rw [E.out]; rfl, rfl⟩

set_option maxHeartbeats 1000000 in
theorem pages_any (p n : Int) (w : World) (hn : n ≤ 9223372036854775807) :
    Calls Tryz.prog 152 #[.int .i64 p, .int .i64 n] w fun e w' => e = .returned (.int .i64 (pagesI p n)) ∧ w = w' := by
  by_cases h0 : p < 1
  · have E := Lib.hid (show pagesI p n = 0 from if_pos (Or.inl h0))
    go_enter Tryz.func152, Tryz.ntmps152
    go_wp2
    go_ret
    exact ⟨by rw [E.out]; rfl, rfl⟩
  · by_cases h1 : n < 1
    · have E := Lib.hid (show pagesI p n = 0 from if_pos (Or.inr h1))
      go_enter Tryz.func152, Tryz.ntmps152
      go_wp2
      go_ret
      exact ⟨by rw [E.out]; rfl, rfl⟩
    · have E := Lib.hid (show pagesI p n = (n - 1) / p + 1 from if_neg (by omega))
      have hq : (n - 1).tdiv p = (n - 1) / p := tdiv_of (by omega)
      have q0 : 0 ≤ (n - 1) / p := Int.ediv_nonneg (by omega) (by omega)
      have q1 : (n - 1) / p ≤ n - 1 := Int.ediv_le_self p (by omega)
      go_enter Tryz.func152, Tryz.ntmps152
      go_wp2
      go_ret
      exact ⟨by rw [E.out]; rfl, rfl⟩

theorem tdiv2 (p : Int) (h0 : -9223372036854775808 ≤ p) (h1 : p ≤ 9223372036854775807) : -4611686018427387904 ≤ p.tdiv 2 ∧ p.tdiv 2 ≤ 4611686018427387903 := by
  rcases Int.lt_or_le p 0 with h | h
  · obtain ⟨q, rfl⟩ : ∃ q, p = - q := ⟨-p, by omega⟩
    rw [Int.neg_tdiv, tdiv_of (by omega)]
    omega
  · rw [tdiv_of h]
    omega

set_option maxHeartbeats 1000000 in
theorem large_any (p n : Int) (w : World) (h0 : -9223372036854775808 ≤ p) (h1 : p ≤ 9223372036854775807) :
    Calls Tryz.prog 150 #[.int .i64 p, .int .i64 n] w fun e w' => e = .returned (.bool (largeB p n)) ∧ w = w' := by
  have hh := tdiv2 p h0 h1
  obtain ⟨q, hq⟩ : ∃ q, p.tdiv 2 = q := ⟨_, rfl⟩
  rw [hq] at hh
  have E := Lib.hid (show largeB p n = decide (q < roundI n) from by rw [← hq]; rfl)
  go_enter Tryz.func150, Tryz.ntmps150
  go_wp2_with fail
  refine (round_any n w).mono ?_
  rintro e w1 ⟨rfl, rfl⟩
  go_wp2
  go_ret
  exact ⟨by rw [E.out]; rfl, rfl⟩
end Go.Proofs.YthmhehehomieiaaGreat

/- Contracts of the program's small functions (package mature: nearest, begin, all, has, holds) and of slices.Index and slices.Contains over flags. -/
namespace Go.Proofs.YthmhehehomieiaaGreat
open Go.RowKit

set_option maxHeartbeats 1000000 in
theorem nearest_any (n l m : Int) (w : World) (hlm : l ≤ m) :
    Calls Tryz.prog 108 #[.int .i64 n, .int .i64 l, .int .i64 m] w fun e w' => e = .returned (.int .i64 (cutI n l m)) ∧ w = w' := by
  by_cases h0 : n < l
  · have E := Lib.hid (show cutI n l m = l from if_pos h0)
    go_enter Tryz.func108, Tryz.ntmps108
    go_wp2
    go_ret
    refine ⟨?_, rfl⟩
    rw [E.out]
    congr 2
    repeat' split
    all_goals omega
  · by_cases h1 : m < n
    · have E := Lib.hid (show cutI n l m = m from by rw [cutI, if_neg h0, if_pos h1])
      go_enter Tryz.func108, Tryz.ntmps108
      go_wp2
      go_ret
      refine ⟨?_, rfl⟩
      rw [E.out]
      congr 2
      repeat' split
      all_goals omega
    · have E := Lib.hid (show cutI n l m = n from by rw [cutI, if_neg h0, if_neg h1])
      go_enter Tryz.func108, Tryz.ntmps108
      go_wp2
      go_ret
      refine ⟨?_, rfl⟩
      rw [E.out]
      congr 2
      repeat' split
      all_goals omega

/-- The program's space: its block. -/
def SpB (w : World) (b : Nat) (F G : Int) (pb N : Nat) : Prop := Blk w b #[.int .i64 F, .int .i64 G, .slice (some ⟨pb, 0, none⟩) N N] 161

theorem SpB.three {w : World} {b : Nat} {F G : Int} {pb N : Nat} (h : SpB w b F G pb N) :
    w.cell? ⟨b, 0, none⟩ = some (.int .i64 F) ∧ w.cell? ⟨b, 1, none⟩ = some (.int .i64 G) ∧ w.cell? ⟨b, 2, none⟩ = some (.slice (some ⟨pb, 0, none⟩) N N) ∧ (∀ i, w.frozen? ⟨b, i, none⟩ = false) :=
  ⟨Blk.cell h 0, Blk.cell h 1, Blk.cell h 2, Blk.frozen h⟩

theorem page_in {G i : Int} (g0 : 1 ≤ G) (g1 : G ≤ 256) (i0 : 0 ≤ i) (i1 : i ≤ 64) : 0 ≤ i * G ∧ i * G ≤ 16384 := by
  have h0 : 0 ≤ i * G := Int.mul_nonneg i0 (by omega)
  have h1 := Int.mul_le_mul_of_nonneg_right i1 (show 0 ≤ G by omega)
  omega

set_option maxHeartbeats 1000000 in
theorem begin_any (b : Nat) (F G i : Int) (pb N : Nat) (w : World) (h : SpB w b F G pb N) (f0 : 0 ≤ F) (f1 : F ≤ 1048576) (g0 : 1 ≤ G) (g1 : G ≤ 256) (i0 : 0 ≤ i) (i1 : i ≤ 64) :
    Calls Tryz.prog 165 #[spP b, .int .i64 i] w fun e w' => e = .returned (.int .i64 (F + i * G)) ∧ ∃ m, w' = w.drewN m := by
  obtain ⟨c0, c1, c2, cf⟩ := h.three
  have hp := page_in g0 g1 i0 i1
  have hm : IntKind.i64.wrap (i * G) = i * G := IntWalk.i64_in _ (by omega)
  have hs : IntKind.i64.wrap (F + i * G) = F + i * G := IntWalk.i64_in _ (by omega)
  clear c2 h
  unfold spP
  go_enter Tryz.func165, Tryz.ntmps165
  go_wp2_with fail
  go_quiet (fail)
  go_wp2
  go_ret
  exact ⟨rfl, _, rfl⟩

set_option maxHeartbeats 1000000 in
theorem mAll_any (b : Nat) (F G : Int) (pb N : Nat) (w : World) (h : SpB w b F G pb N) :
    Calls Tryz.prog 112 #[spP b] w fun e w' => e = .returned (.slice (some ⟨pb, 0, none⟩) N N) ∧ w = w' := by
  obtain ⟨c0, c1, c2, cf⟩ := h.three
  clear c0 c1 h
  unfold spP
  go_enter Tryz.func112, Tryz.ntmps112
  go_wp2
  go_ret
  exact ⟨rfl, rfl⟩

def hasM (N : Nat) (n : Int) : Bool := decide (0 ≤ n) && decide (n < N)


def firstB (k : Int) : Bool := k == 1 || k == 2

set_option maxHeartbeats 1000000 in
theorem holds_any (k s : Int) (v : Value) (p : Bool) (w : World) :
    Calls Tryz.prog 164 #[.agg #[.int .i64 k, .int .i64 s, v, .bool p]] w fun e w' => e = .returned (.bool (firstB k)) ∧ Below w.heap.size w w' := by
  by_cases h1 : k = 1
  · subst h1
    go_enter Tryz.func164, Tryz.ntmps164
    go_wp2
    go_ret
    exact ⟨rfl, (Below.refl _ _).alloc (Nat.le_refl _) _⟩
  · go_enter Tryz.func164, Tryz.ntmps164
    go_wp2
    go_ret
    exact ⟨rfl, (Below.refl _ _).alloc (Nat.le_refl _) _⟩

/-- Where the first flag is that is v; below 0: nowhere. -/
def idxI (us : List Bool) (v : Bool) : Int := match us.findIdx? (fun x => v == x) with
  | some i => i
  | none => -1

set_option maxHeartbeats 1000000 in
theorem index_any (u : Nat) (us : List Bool) (v : Bool) (w : World) (h : Blk w u (us.map Value.bool).toArray 4) (few : us.length ≤ 256) :
    Calls Tryz.prog 171 #[.slice (some ⟨u, 0, none⟩) us.length us.length, .bool v] w fun e w' => e = .returned (.int .i64 (idxI us v)) ∧ w = w' := by
  have HH := Lib.hid h
  have cf := h.frozen
  clear h
  go_enter Tryz.func171, Tryz.ntmps171
  go_wp2_with fail
  go_loopw [8] (fun s wr => ∃ j : Nat, j ≤ us.length ∧ s = .int .i64 j ∧ Hid (∀ k x, k < j → us[k]? = some x → (v == x) = false) ∧ w = wr) (fun s _ => us.length - (intOf s).toNat)
  case atStart => exact ⟨0, Nat.zero_le _, rfl, Lib.hid (fun k c hk => by omega), rfl⟩
  case round =>
    obtain ⟨j, hj, rfl, HT, rfl⟩ := hrel
    by_cases hlt : j < us.length
    · obtain ⟨x, hx⟩ : ∃ x, us[j]? = some x := ⟨_, List.getElem?_eq_getElem hlt⟩
      have c0 := HH.out.bools hx
      have HX := Lib.hid hx
      clear hx
      cases e : (v == x)
      · have N1 := Lib.hid (show ∀ k y, k < j + 1 → us[k]? = some y → (v == y) = false from fun k y hk hy => by
          by_cases ek : k = j
          · subst ek
            obtain rfl : x = y := by have := HX.out.symm.trans hy; simpa using this
            exact e
          · exact HT.out k y (by omega) hy)
        have ed : decide (v = x) = false := by cases v <;> cases x <;> simp_all
        go_wp2
        go_roundw
        case rel => exact ⟨j + 1, by omega, by go_num, N1.out, by trivial⟩
        case measure => simp [intOf]; omega
      · have hit := Lib.hid (show idxI us v = j from by
          have : us.findIdx? (fun x => v == x) = some j := by
            rw [List.findIdx?_eq_some_iff_getElem]
            refine ⟨hlt, ?_, fun k hk => ?_⟩
            · have e2 : us[j] = x := by have := HX.out; rw [List.getElem?_eq_getElem hlt] at this; simpa using this
              rw [e2]; exact e
            · rw [HT.out k _ hk (List.getElem?_eq_getElem (by omega))]; exact Bool.false_ne_true
          rw [idxI, this])
        have ed : decide (v = x) = true := by cases v <;> cases x <;> simp_all
        go_wp2
        go_ret
        exact ⟨by rw [hit.out]; rfl, rfl⟩
    · obtain rfl : j = us.length := by omega
      have hit := Lib.hid (show idxI us v = -1 from by
        have : us.findIdx? (fun x => v == x) = none := by
          rw [List.findIdx?_eq_none_iff]
          intro x hx
          obtain ⟨k, hk, rfl⟩ := List.getElem_of_mem hx
          exact HT.out k _ hk (List.getElem?_eq_getElem hk)
        rw [idxI, this])
      go_wp2
      go_ret
      exact ⟨by rw [hit.out]; rfl, rfl⟩

theorem idxI_cases (us : List Bool) (v : Bool) : (∃ j : Nat, idxI us v = j ∧ us[j]? = some v ∧ ∀ i : Nat, i < j → us[i]? ≠ some v) ∨ (idxI us v = -1 ∧ v ∉ us) := by
  unfold idxI
  cases h : us.findIdx? (fun x => v == x) with
  | none =>
    rw [List.findIdx?_eq_none_iff] at h
    exact Or.inr ⟨rfl, fun hm => by have := h v hm; simp at this⟩
  | some i =>
    obtain ⟨hi, hp, hn⟩ := List.findIdx?_eq_some_iff_getElem.1 h
    refine Or.inl ⟨i, rfl, ?_, fun k hk e => ?_⟩
    · have : v = us[i] := by simpa using hp
      rw [List.getElem?_eq_getElem hi, ← this]
    · have h1 := hn k hk
      rw [List.getElem?_eq_getElem (by omega)] at e
      have : us[k] = v := by simpa using e
      rw [this] at h1
      simp at h1

def hasV (us : List Bool) (v : Bool) : Bool := decide (v ∈ us)

set_option maxHeartbeats 1000000 in
theorem contains_any (u : Nat) (us : List Bool) (v : Bool) (w : World) (h : Blk w u (us.map Value.bool).toArray 4) (few : us.length ≤ 256) :
    Calls Tryz.prog 176 #[.slice (some ⟨u, 0, none⟩) us.length us.length, .bool v] w fun e w' => e = .returned (.bool (hasV us v)) ∧ w = w' := by
  have hI := index_any u us v w h few
  rcases idxI_cases us v with ⟨j, e1, e2, _⟩ | ⟨e1, e2⟩
  · rw [e1] at hI
    have HI := Lib.hid hI
    have E := Lib.hid (show hasV us v = true from decide_eq_true (List.mem_of_getElem? e2))
    clear hI h e1 e2
    go_enter Tryz.func176, Tryz.ntmps176
    go_wp2_with fail
    refine HI.out.mono ?_
    rintro e w1 ⟨rfl, rfl⟩
    go_wp2
    go_ret
    exact ⟨by rw [E.out]; rfl, rfl⟩
  · rw [e1] at hI
    have HI := Lib.hid hI
    have E := Lib.hid (show hasV us v = false from decide_eq_false e2)
    clear hI h e1 e2
    go_enter Tryz.func176, Tryz.ntmps176
    go_wp2_with fail
    refine HI.out.mono ?_
    rintro e w1 ⟨rfl, rfl⟩
    go_wp2
    go_ret
    exact ⟨by rw [E.out]; rfl, rfl⟩
end Go.Proofs.YthmhehehomieiaaGreat

/- The program's space as it lies in memory: a block of its own, a block of its pages' states, a block of flags for each page that has cells. -/
namespace Go.Proofs.YthmhehehomieiaaGreat
open Go.RowKit

def Pg.kind : Pg → Int
  | .free => 0
  | .blk _ _ => 1
  | .big _ => 2
  | .rest => 3

def Pg.size (G : Int) : Pg → Int
  | .free => 0
  | .blk s _ => s
  | .big c => c * G
  | .rest => 0

def Pg.flags : Pg → List Bool
  | .blk _ us => us
  | .big _ => [true]
  | _ => []

def Pg.adr (u : Nat) (x : Pg) : Option Addr := if x.first then some ⟨u, 0, none⟩ else none

def Pg.row (u : Nat) (x : Pg) : Value := .slice (x.adr u) x.flags.length x.flags.length

def stV (G : Int) (x : Pg) (u : Nat) (p : Bool) : List Value := [.int .i64 x.kind, .int .i64 (x.size G), x.row u, .bool p]

def flat4 (n : Nat) (f : Nat → List Value) : List Value := (List.range n).flatMap f

theorem flat4_length {f : Nat → List Value} (hf : ∀ i, (f i).length = 4) (n : Nat) : (flat4 n f).length = n * 4 := by
  unfold flat4
  induction n with
  | zero => rfl
  | succ n ih => rw [List.range_succ, List.flatMap_append, List.length_append, ih, List.flatMap_cons, List.flatMap_nil, List.append_nil, hf]; omega

theorem flat4_at {f : Nat → List Value} (hf : ∀ i, (f i).length = 4) {n i j : Nat} (hi : i < n) (hj : j < 4) : (flat4 n f)[i * 4 + j]? = (f i)[j]? := by
  induction n with
  | zero => omega
  | succ n ih =>
    have hl := flat4_length hf n
    have e : flat4 (n + 1) f = flat4 n f ++ f n := by simp [flat4, List.range_succ]
    rw [e]
    by_cases c : i < n
    · rw [List.getElem?_append_left (by omega)]
      exact ih c
    · obtain rfl : i = n := by omega
      rw [List.getElem?_append_right (by omega)]
      congr 1
      omega

theorem flat4_ext {f : Nat → List Value} (hf : ∀ i, (f i).length = 4) {n : Nat} {L : List Value} (hl : L.length = n * 4) (h : ∀ i j, i < n → j < 4 → L[i * 4 + j]? = (f i)[j]?) : L = flat4 n f := by
  apply List.ext_getElem?
  intro k
  by_cases hk : k < n * 4
  · have e : k = (k / 4) * 4 + k % 4 := by omega
    rw [e, h _ _ (by omega) (by omega), flat4_at hf (by omega) (by omega)]
  · rw [List.getElem?_eq_none (by omega), List.getElem?_eq_none (by rw [flat4_length hf]; omega)]

def stF (G : Int) (pgs : List Pg) (ub : Nat → Nat) (ps : List Bool) (i : Nat) : List Value := stV G (pgs.getD i .free) (ub i) (ps.getD i false)

theorem stF_four (G : Int) (pgs : List Pg) (ub : Nat → Nat) (ps : List Bool) (i : Nat) : (stF G pgs ub ps i).length = 4 := rfl

/-- The program's space lies in block b, its pages' states in block pb, the flags of page i in block ub i. -/
structure IsSp (w : World) (b pb : Nat) (ub : Nat → Nat) (F G : Int) (pgs : List Pg) (ps : List Bool) : Prop where
  sp : SpB w b F G pb pgs.length
  pg : Blk w pb (flat4 pgs.length (stF G pgs ub ps)).toArray 166
  fl : ∀ (i : Nat) (x : Pg), pgs[i]? = some x → x.first = true → Blk w (ub i) (x.flags.map Value.bool).toArray 4
  inj : ∀ (i j : Nat) (x y : Pg), pgs[i]? = some x → pgs[j]? = some y → x.first = true → y.first = true → ub i = ub j → i = j
  pend : ∀ i : Nat, ps[i]? = some true → ∃ x : Pg, pgs[i]? = some x ∧ x.first = true
  wf : WF G pgs
  len : pgs.length = ps.length
  f0 : 0 ≤ F
  f1 : F ≤ 1048576
  g0 : 1 ≤ G
  g1 : G ≤ 256
  p1 : ps.length ≤ 64

/-- Its own blocks. -/
def SpS (b pb : Nat) (ub : Nat → Nat) (pgs : List Pg) (k : Nat) : Prop := k = b ∨ k = pb ∨ ∃ (i : Nat) (x : Pg), pgs[i]? = some x ∧ x.first = true ∧ k = ub i

section
variable {w w' : World} {b pb : Nat} {ub : Nat → Nat} {F G : Int} {pgs : List Pg} {ps : List Bool}

theorem IsSp.lt (h : IsSp w b pb ub F G pgs ps) (k : Nat) (hk : SpS b pb ub pgs k) : k < w.heap.size := by
  rcases hk with rfl | rfl | ⟨i, x, hx, hf, rfl⟩
  · exact Blk.lt h.sp
  · exact h.pg.lt
  · exact (h.fl i x hx hf).lt

theorem IsSp.stay (h : IsSp w b pb ub F G pgs ps) (hb : ∀ k, SpS b pb ub pgs k → w'.heap[k]? = w.heap[k]?) : IsSp w' b pb ub F G pgs ps :=
  { h with
    sp := (hb b (Or.inl rfl)).trans h.sp
    pg := (hb pb (Or.inr (Or.inl rfl))).trans h.pg
    fl := fun i x hx hf => (hb (ub i) (Or.inr (Or.inr ⟨i, x, hx, hf, rfl⟩))).trans (h.fl i x hx hf) }

theorem IsSp.keep (h : IsSp w b pb ub F G pgs ps) (k : Below w.heap.size w w') : IsSp w' b pb ub F G pgs ps := h.stay fun i hi => k.block i (h.lt i hi)

theorem IsSp.at_ (h : IsSp w b pb ub F G pgs ps) {i : Nat} {x : Pg} (hx : pgs[i]? = some x) :
    ∃ p, ps[i]? = some p ∧ w.cell? ⟨pb, i * 4, none⟩ = some (.int .i64 x.kind) ∧ w.cell? ⟨pb, i * 4 + 1, none⟩ = some (.int .i64 (x.size G)) ∧ w.cell? ⟨pb, i * 4 + 2, none⟩ = some (.slice (x.adr (ub i)) x.flags.length x.flags.length) ∧ w.cell? ⟨pb, i * 4 + 3, none⟩ = some (.bool p) ∧ (∀ k, w.frozen? ⟨pb, k, none⟩ = false) := by
  have hi := (List.getElem?_eq_some_iff.1 hx).1
  have hp : ps[i]? = some (ps[i]'(by have := h.len; omega)) := List.getElem?_eq_getElem (by have := h.len; omega)
  have hs : stF G pgs ub ps i = stV G x (ub i) (ps[i]'(by have := h.len; omega)) := by
    unfold stF
    rw [List.getD_eq_getElem?_getD, hx, List.getD_eq_getElem?_getD, hp]
    rfl
  have cell : ∀ j, j < 4 → w.cell? ⟨pb, i * 4 + j, none⟩ = (stV G x (ub i) (ps[i]'(by have := h.len; omega)))[j]? := fun j hj => by
    rw [h.pg.cell, List.getElem?_toArray, flat4_at (stF_four G pgs ub ps) hi hj, hs]
  exact ⟨_, hp, cell 0 (by omega), cell 1 (by omega), cell 2 (by omega), cell 3 (by omega), h.pg.frozen⟩

/-- A page's numbers are small. -/
theorem IsSp.small (h : IsSp w b pb ub F G pgs ps) {i : Nat} {x : Pg} (hx : pgs[i]? = some x) : 0 ≤ x.kind ∧ x.kind ≤ 3 ∧ 0 ≤ x.size G ∧ x.size G ≤ 16384 ∧ x.flags.length ≤ 64 ∧ i < 64 := by
  have hi := (List.getElem?_eq_some_iff.1 hx).1
  have hl := h.len
  have hp := h.p1
  have g0 := h.g0
  have g1 := h.g1
  cases x with
  | free => exact ⟨show (0 : Int) ≤ 0 by decide, show (0 : Int) ≤ 3 by decide, Int.le_refl _, show (0 : Int) ≤ 16384 by decide, show 0 ≤ 64 by decide, by omega⟩
  | rest => exact ⟨show (0 : Int) ≤ 3 by decide, show (3 : Int) ≤ 3 by decide, Int.le_refl _, show (0 : Int) ≤ 16384 by decide, show 0 ≤ 64 by decide, by omega⟩
  | big c =>
    obtain ⟨c1, c2, _⟩ := h.wf.big i c hx
    have := page_in (G := G) (i := c) g0 g1 (by omega) (by omega)
    exact ⟨show (0 : Int) ≤ 2 by decide, show (2 : Int) ≤ 3 by decide, this.1, this.2, show 1 ≤ 64 by decide, by omega⟩
  | blk s us =>
    obtain ⟨s0, s1, hu, _⟩ := h.wf.blk i s us hx
    have q : G / s ≤ G / 4 := by
      refine Int.le_ediv_of_mul_le (by omega) ?_
      have h1 := Int.mul_le_mul_of_nonneg_left s0 (show 0 ≤ G / s by omega)
      have h2 := Int.ediv_mul_le G (show s ≠ 0 by omega)
      omega
    refine ⟨show (0 : Int) ≤ 1 by decide, show (1 : Int) ≤ 3 by decide, ?_, ?_, ?_, by omega⟩
    · show 0 ≤ s; omega
    · show s ≤ 16384; omega
    · show us.length ≤ 64; omega
end
end Go.Proofs.YthmhehehomieiaaGreat

/- Of pages and cells, of numbers and lists alone: what the program's loops go over. -/
namespace Go.Proofs.YthmhehehomieiaaGreat

def Pg.isBig : Pg → Bool
  | .big _ => true
  | _ => false

/-- Cell j of page i. -/
def Pg.cell (F G : Int) (i : Nat) (x : Pg) (j : Nat) : Rc := ⟨F + i * G + j * x.size G, x.size G, x.flags.getD j false, x.isBig⟩

theorem Pg.cells_eq (F G : Int) (i : Nat) (x : Pg) : x.cells F G i = (List.range x.flags.length).map (x.cell F G i) := by
  cases x with
  | free => rfl
  | rest => rfl
  | big c => simp [Pg.cells, Pg.flags, Pg.cell, Pg.size, Pg.isBig, List.range_succ]
  | blk s us => rfl

theorem Pg.cells_length (F G : Int) (i : Nat) (x : Pg) : (x.cells F G i).length = x.flags.length := by rw [Pg.cells_eq]; simp

theorem Pg.cells_at (F G : Int) (i : Nat) (x : Pg) {j : Nat} (hj : j < x.flags.length) : (x.cells F G i)[j]? = some (x.cell F G i j) := by
  rw [Pg.cells_eq, List.getElem?_map, List.getElem?_range hj]; rfl

theorem Pg.mem_cells {F G : Int} {i : Nat} {x : Pg} {c : Rc} : c ∈ x.cells F G i ↔ ∃ j : Nat, j < x.flags.length ∧ c = x.cell F G i j := by
  rw [Pg.cells_eq, List.mem_map]
  constructor
  · rintro ⟨j, hj, rfl⟩; exact ⟨j, List.mem_range.1 hj, rfl⟩
  · rintro ⟨j, hj, rfl⟩; exact ⟨j, List.mem_range.2 hj, rfl⟩

theorem cellsP_take (F G : Int) {pgs : List Pg} {k : Nat} {x : Pg} (hx : pgs[k]? = some x) : cellsP F G (pgs.take (k + 1)) = cellsP F G (pgs.take k) ++ x.cells F G k := by
  have hk := (List.getElem?_eq_some_iff.1 hx).1
  unfold cellsP
  rw [List.length_take, List.length_take, Nat.min_eq_left (by omega), Nat.min_eq_left (by omega), List.range_succ, List.flatMap_append, List.flatMap_cons, List.flatMap_nil, List.append_nil]
  congr 1
  · apply flatMap_ext
    intro i hi
    have := List.mem_range.1 hi
    rw [List.getD_eq_getElem?_getD, List.getD_eq_getElem?_getD, List.getElem?_take_of_lt (by omega), List.getElem?_take_of_lt (by omega)]
  · rw [List.getD_eq_getElem?_getD, List.getElem?_take_of_lt (by omega), hx]
    rfl

theorem usedI_append (xs ys : List Rc) : usedI (xs ++ ys) = usedI xs + usedI ys := by
  induction xs with
  | nil => simp [usedI]
  | cons c xs ih => simp only [List.cons_append, usedI, ih]; omega

theorem starts_append (f t : Int) (xs ys : List Rc) : ((xs ++ ys).filter (inR f t)).map Rc.pos = (xs.filter (inR f t)).map Rc.pos ++ (ys.filter (inR f t)).map Rc.pos := by
  rw [List.filter_append, List.map_append]

theorem kind_first (x : Pg) : firstB x.kind = x.first := by cases x <;> rfl

/-- What is in use and begins at n is a cell of the page that n is in. -/
theorem hit_page {F G n : Int} {pgs : List Pg} (g0 : 1 ≤ G) (wf : WF G pgs) {c : Rc} (hc : (cellsP F G pgs).find? (hitB n) = some c) :
    ∃ (i j : Nat) (x : Pg), pgs[i]? = some x ∧ j < x.flags.length ∧ c = x.cell F G i j ∧ n = F + i * G + j * x.size G ∧ x.flags[j]? = some true ∧ ofI F G n = i := by
  have hm := List.mem_of_find?_eq_some hc
  have hh := List.find?_some hc
  simp only [hitB, Bool.and_eq_true, decide_eq_true_eq] at hh
  obtain ⟨i, x, hx, hcx⟩ := mem_cellsP.1 hm
  have hp := (cell_pages g0 wf hx hcx).1
  obtain ⟨j, hj, rfl⟩ := Pg.mem_cells.1 hcx
  refine ⟨i, j, x, hx, hj, rfl, hh.1.symm, ?_, by rw [← hh.1]; exact hp⟩
  have h2 : x.flags.getD j false = true := hh.2
  rw [List.getD_eq_getElem?_getD, List.getElem?_eq_getElem hj] at h2
  rw [List.getElem?_eq_getElem hj]
  exact congrArg some h2

theorem hit_some {F G : Int} {pgs : List Pg} (g0 : 1 ≤ G) (wf : WF G pgs) {i j : Nat} {x : Pg} (hx : pgs[i]? = some x) (hj : x.flags[j]? = some true) :
    (cellsP F G pgs).find? (hitB (F + i * G + j * x.size G)) = some (x.cell F G i j) := by
  have hjl := (List.getElem?_eq_some_iff.1 hj).1
  have hm : x.cell F G i j ∈ cellsP F G pgs := mem_cellsP.2 ⟨i, x, hx, Pg.mem_cells.2 ⟨j, hjl, rfl⟩⟩
  have hu : (x.cell F G i j).used = true := by
    show x.flags.getD j false = true
    rw [List.getD_eq_getElem?_getD, hj]; rfl
  cases e : (cellsP F G pgs).find? (hitB (F + i * G + j * x.size G)) with
  | none =>
    rw [List.find?_eq_none] at e
    exact absurd (show hitB (F + i * G + j * x.size G) (x.cell F G i j) = true from by rw [hitB, hu, Bool.and_true]; exact decide_eq_true rfl) (e _ hm)
  | some c =>
    have hcm := List.mem_of_find?_eq_some e
    have hh := List.find?_some e
    simp only [hitB, Bool.and_eq_true, decide_eq_true_eq] at hh
    rw [pos_unique g0 wf hcm hm hh.1]

/-- A cell lies within its space. -/
theorem hit_in {F G n : Int} {pgs : List Pg} (g0 : 1 ≤ G) (wf : WF G pgs) {i j : Nat} {x : Pg} (hx : pgs[i]? = some x) (hj : j < x.flags.length) (hn : n = F + i * G + j * x.size G) :
    0 ≤ (j : Int) * x.size G ∧ (j : Int) * x.size G < G ∧ F + i * G ≤ n ∧ n < F + i * G + G := by
  have key : 0 ≤ (j : Int) * x.size G ∧ (j : Int) * x.size G < G := by
    cases x with
    | free => simp [Pg.flags] at hj
    | rest => simp [Pg.flags] at hj
    | big c =>
      simp only [Pg.flags, List.length_singleton] at hj
      obtain rfl : j = 0 := by omega
      simp; omega
    | blk s us =>
      obtain ⟨s0, s1, hl, _⟩ := wf.blk i s us hx
      have := in_page s0 hl (show j < us.length from hj)
      show 0 ≤ (j : Int) * s ∧ (j : Int) * s < G
      omega
  omega
end Go.Proofs.YthmhehehomieiaaGreat

/- Contracts of the program's Done and Pend. -/
namespace Go.Proofs.YthmhehehomieiaaGreat
open Go.RowKit

section
variable {w : World} {b pb : Nat} {ub : Nat → Nat} {F G : Int} {pgs : List Pg} {ps : List Bool}

theorem IsSp.b_ne (h : IsSp w b pb ub F G pgs ps) : b ≠ pb := Blk.ne_ h.sp h.pg (by decide)
theorem IsSp.f_ne (h : IsSp w b pb ub F G pgs ps) {i : Nat} {x : Pg} (hx : pgs[i]? = some x) (hf : x.first = true) : ub i ≠ pb := Blk.ne_ (h.fl i x hx hf) h.pg (by decide)
theorem IsSp.u_ne (h : IsSp w b pb ub F G pgs ps) {i : Nat} {x : Pg} (hx : pgs[i]? = some x) (hf : x.first = true) : b ≠ ub i := Blk.ne_ h.sp (h.fl i x hx hf) (by decide)

/-- A page's pending flag is set. -/
theorem IsSp.setPend (h : IsSp w b pb ub F G pgs ps) {i : Nat} {x : Pg} (hx : pgs[i]? = some x) (q : Bool) (hq : q = true → x.first = true) :
    IsSp (w.setCell ⟨pb, i * 4 + 3, none⟩ (.bool q)) b pb ub F G pgs (ps.set i q) := by
  have hi := (List.getElem?_eq_some_iff.1 hx).1
  have hl := h.len
  refine { h with sp := Blk.far h.sp h.b_ne _, pg := ?_, fl := fun k y hk hf => (h.fl k y hk hf).far (h.f_ne hk hf) _, pend := fun k hk => ?_, len := by rw [List.length_set]; exact h.len, p1 := by rw [List.length_set]; exact h.p1 }
  · have hb := h.pg.set_ (i * 4 + 3) (.bool q)
    have e : (flat4 pgs.length (stF G pgs ub ps)).set (i * 4 + 3) (.bool q) = flat4 pgs.length (stF G pgs ub (ps.set i q)) := by
      refine flat4_ext (stF_four G pgs ub (ps.set i q)) (by rw [List.length_set, flat4_length (stF_four G pgs ub ps)]) fun k j hk hj => ?_
      by_cases e1 : k = i
      · subst e1
        by_cases e2 : j = 3
        · subst e2
          rw [List.getElem?_set_self (by rw [flat4_length (stF_four G pgs ub ps)]; omega)]
          simp [stF, stV, List.getD_eq_getElem?_getD, show k < ps.length by omega]
        · rw [List.getElem?_set_ne (by omega), flat4_at (stF_four G pgs ub ps) hk hj]
          obtain rfl | rfl | rfl : j = 0 ∨ j = 1 ∨ j = 2 := by omega
          all_goals rfl
      · rw [List.getElem?_set_ne (by omega), flat4_at (stF_four G pgs ub ps) hk hj]
        unfold stF
        rw [List.getD_eq_getElem?_getD (l := ps.set i q), List.getElem?_set_ne (by omega), ← List.getD_eq_getElem?_getD]
    rw [← e]
    have e3 : (flat4 pgs.length (stF G pgs ub ps)).toArray.setIfInBounds (i * 4 + 3) (.bool q) = ((flat4 pgs.length (stF G pgs ub ps)).set (i * 4 + 3) (.bool q)).toArray := by
      apply Array.ext'
      simp
    rw [← e3]
    exact hb
  · by_cases e : k = i
    · subst e
      rw [List.getElem?_set_self (by omega)] at hk
      exact ⟨x, hx, hq (by simpa using hk)⟩
    · rw [List.getElem?_set_ne (by omega)] at hk
      exact h.pend k hk
end


def pendN (pgs : List Pg) (ps : List Bool) (k : Nat) : List Bool := (pgs.take k).map Pg.first ++ ps.drop k

theorem pendN_next {pgs : List Pg} {ps : List Bool} (hl : pgs.length = ps.length) {k : Nat} {x : Pg} (hx : pgs[k]? = some x) : (pendN pgs ps k).set k x.first = pendN pgs ps (k + 1) := by
  have hk := (List.getElem?_eq_some_iff.1 hx).1
  unfold pendN
  rw [take_snoc hx, List.map_append, List.map_singleton, List.drop_eq_getElem_cons (show k < ps.length by omega), List.append_assoc]
  rw [List.set_append_right _ _ (by rw [List.length_map, List.length_take]; omega)]
  congr 1
  rw [List.length_map, List.length_take, Nat.min_eq_left (by omega), Nat.sub_self]
  rfl

end Go.Proofs.YthmhehehomieiaaGreat
