/- Texts of the layers below, joined: PgD PgE PgF RefP PgG CelQ BumpA GcG GcH GcI GcJ BumpB MatI ClassA ClassB MatA MatB MatM MatG MatE MatF MatH MatK MatD MatT MatU MatS MatC MatV. -/
import Derived.Test.YthmhehehomieiaaGreatJoinA
import Derived.Deep.QuietTactic
import Derived.BigQuiet
import Derived.BigRegion
import Derived.IntWalk
import Derived.Deep.RegionHeld3

/- Take and Give of the document, as they turn pages. Of numbers and lists alone. -/
namespace Go.Proofs.YthmhehehomieiaaGreat

/-- k pages from p on turn into y. -/
def fill (pgs : List Pg) (y : Pg) (p k : Nat) : List Pg := (List.range pgs.length).map fun i => if p ≤ i ∧ i < p + k then y else pgs.getD i .free

theorem fill_length (pgs : List Pg) (y : Pg) (p k : Nat) : (fill pgs y p k).length = pgs.length := by simp [fill]

theorem fill_at (pgs : List Pg) (y : Pg) (p k i : Nat) (hi : i < pgs.length) : (fill pgs y p k)[i]? = if p ≤ i ∧ i < p + k then some y else pgs[i]? := by
  unfold fill
  rw [List.getElem?_map, List.getElem?_range hi, Option.map_some]
  split
  · rfl
  · rw [List.getD_eq_getElem?_getD, List.getElem?_eq_getElem hi]
    rfl

theorem cellsP_same {F G : Int} {ps qs : List Pg} (hl : ps.length = qs.length) (h : ∀ i, i < ps.length → (ps.getD i .free).cells F G i = (qs.getD i .free).cells F G i) : cellsP F G ps = cellsP F G qs := by
  unfold cellsP
  rw [← hl]
  exact flatMap_ext fun i hi => h i (List.mem_range.1 hi)

theorem cellsP_fill {F G : Int} {pgs : List Pg} {y : Pg} {p k : Nat} (hy : ∀ i, y.cells F G i = []) (h : ∀ i x, p ≤ i → i < p + k → pgs[i]? = some x → x.cells F G i = []) : cellsP F G (fill pgs y p k) = cellsP F G pgs := by
  refine cellsP_same (fill_length ..) fun i hi => ?_
  rw [fill_length] at hi
  rw [List.getD_eq_getElem?_getD, List.getD_eq_getElem?_getD, fill_at _ _ _ _ _ hi]
  split
  · rename_i hr
    rw [Option.getD_some, hy, List.getElem?_eq_getElem hi, Option.getD_some, h i _ hr.1 hr.2 (List.getElem?_eq_getElem hi)]
  · rfl

/-- Pages from p on become something large. -/
def bigAt (pgs : List Pg) (p C : Nat) : List Pg := (fill pgs .rest p C).set p (.big C)

theorem bigAt_at (pgs : List Pg) (p C i : Nat) (hi : i < pgs.length) : (bigAt pgs p C)[i]? = if i = p then some (.big C) else if p ≤ i ∧ i < p + C then some .rest else pgs[i]? := by
  unfold bigAt
  by_cases e : i = p
  · subst e
    rw [List.getElem?_set_self (by rw [fill_length]; exact hi), if_pos rfl]
  · rw [List.getElem?_set_ne (by omega), if_neg e, fill_at _ _ _ _ _ hi]

theorem Rel.large {F G : Int} {cs : List Rc} {pgs : List Pg} (h : Rel F G cs pgs) {p C : Nat} (hC : p + C ≤ pgs.length) (h1 : 1 ≤ C) (hf : ∀ i, p ≤ i → i < p + C → pgs[i]? = some .free) :
    Rel F G (cs ++ [⟨F + p * G, C * G, true, true⟩]) (bigAt pgs p C) := by
  have len : (bigAt pgs p C).length = pgs.length := by rw [bigAt, List.length_set, fill_length]
  have at_ := fun i hi => bigAt_at pgs p C i hi
  refine ⟨?_, ⟨fun i s us hb => ?_, fun i c hb => ?_, fun j hb => ?_⟩⟩
  · have hpl : p < (fill pgs .rest p C).length := by rw [fill_length]; omega
    obtain ⟨A, B, e, _⟩ := cellsP_split F G (fill pgs .rest p C) p hpl
    have e0 := e .rest
    rw [set_same (by rw [fill_at _ _ _ _ _ (by omega), if_pos ⟨by omega, by omega⟩]), cellsP_fill (fun _ => rfl) (fun i x i1 i2 hx => by rw [hf i i1 i2] at hx; cases hx; rfl)] at e0
    have hp0 := h.perm
    rw [e0] at hp0
    rw [bigAt, e]
    have h2 : (cs ++ [(⟨F + p * G, C * G, true, true⟩ : Rc)]).Perm ((A ++ B) ++ [⟨F + p * G, C * G, true, true⟩]) := hp0.append_right _
    refine h2.trans ?_
    rw [List.append_assoc]
    exact List.Perm.append_left A List.perm_append_comm
  · have hi : i < pgs.length := by have := (List.getElem?_eq_some_iff.1 hb).1; omega
    rw [at_ i hi] at hb
    split at hb
    · cases hb
    · split at hb
      · cases hb
      · exact h.wf.blk i s us hb
  · have hi : i < pgs.length := by have := (List.getElem?_eq_some_iff.1 hb).1; omega
    rw [at_ i hi] at hb
    split at hb
    · rename_i e
      cases hb
      refine ⟨h1, by omega, fun j j1 j2 => ?_⟩
      rw [at_ j (by omega), if_neg (by omega), if_pos ⟨by omega, by omega⟩]
    · split at hb
      · cases hb
      · obtain ⟨k1, k2, k3⟩ := h.wf.big i c hb
        refine ⟨k1, by omega, fun j j1 j2 => ?_⟩
        have hr := k3 j j1 j2
        rw [at_ j (by omega)]
        have nf : ¬ (p ≤ j ∧ j < p + C) := fun hh => by rw [hf j hh.1 hh.2] at hr; cases hr
        rw [if_neg (fun e => nf ⟨by omega, by omega⟩), if_neg nf]
        exact hr
  · have hj : j < pgs.length := by have := (List.getElem?_eq_some_iff.1 hb).1; omega
    rw [at_ j hj] at hb
    split at hb
    · cases hb
    · split at hb
      · rename_i ne hr
        exact ⟨p, C, by omega, by omega, by rw [at_ p (by omega), if_pos rfl]⟩
      · obtain ⟨i, c, i1, i2, i3⟩ := h.wf.rest j hb
        refine ⟨i, c, i1, i2, ?_⟩
        rw [at_ i (by omega)]
        have nf : ¬ (p ≤ i ∧ i < p + C) := fun hh => by rw [hf i hh.1 hh.2] at i3; cases i3
        rw [if_neg (fun e => nf ⟨by omega, by omega⟩), if_neg nf]
        exact i3

/-- Something large is given back. -/
theorem Rel.unlarge {F G : Int} {cs : List Rc} {pgs : List Pg} (g0 : 1 ≤ G) (h : Rel F G cs pgs) {p c b : Nat} {u : Bool} (hx : pgs[p]? = some (.big c)) (hb : cs[b]? = some ⟨F + p * G, c * G, true, true⟩) :
    Rel F G ((cs.set b ⟨F + p * G, c * G, u, true⟩).filter (otherB F G p)) (fill pgs .free p c) := by
  obtain ⟨k1, k2, k3⟩ := h.wf.big p c hx
  have hp := (List.getElem?_eq_some_iff.1 hx).1
  have len := fill_length pgs .free p c
  have at_ := fun i hi => fill_at pgs .free p c i hi
  refine ⟨?_, ⟨fun i s us hh => ?_, fun i d hh => ?_, fun j hh => ?_⟩⟩
  · obtain ⟨A, B, e, ho⟩ := cellsP_split F G pgs p hp
    have e0 := e (.big c)
    rw [set_same hx] at e0
    have hp0 := h.perm
    rw [e0] at hp0
    have h1 : cs.Perm (A ++ (⟨F + p * G, c * G, true, true⟩ : Rc) :: B) := hp0
    have h2 := (perm_set (c' := ⟨F + p * G, c * G, u, true⟩) hb h1).filter (otherB F G p)
    have far : ∀ d ∈ A ++ B, otherB F G p d = true := fun d hd => by
      obtain ⟨i, x, hi, hxi, hcx⟩ := ho d hd
      have := (cell_pages g0 h.wf hxi hcx).1
      simp only [otherB, this, Bool.not_eq_true', decide_eq_false_iff_not]
      omega
    have here : otherB F G p ⟨F + p * G, c * G, u, true⟩ = false := by
      have := ofI_at (F := F) g0 p 0 (by omega) (by omega)
      rw [Int.add_zero] at this
      simp [otherB, this]
    rw [List.filter_append, List.filter_cons_of_neg (by rw [here]; exact Bool.false_ne_true), List.filter_eq_self.2 fun d hd => far d (List.mem_append_left _ hd), List.filter_eq_self.2 fun d hd => far d (List.mem_append_right _ hd)] at h2
    have e1 : cellsP F G (fill pgs .free p c) = A ++ B := by
      have e2 := e .free
      rw [show ((Pg.free).cells F G p ++ B) = B from rfl] at e2
      rw [← e2]
      refine cellsP_same (by rw [len, List.length_set]) fun i hi => ?_
      rw [len] at hi
      rw [List.getD_eq_getElem?_getD, List.getD_eq_getElem?_getD, at_ i hi]
      by_cases ei : i = p
      · subst ei
        rw [if_pos ⟨by omega, by omega⟩, List.getElem?_set_self hp]
      · rw [List.getElem?_set_ne (by omega)]
        split
        · rename_i hr
          rw [k3 i (by omega) hr.2]
          rfl
        · rfl
    rw [e1]
    exact h2
  · have hi : i < pgs.length := by have := (List.getElem?_eq_some_iff.1 hh).1; omega
    rw [at_ i hi] at hh
    split at hh
    · cases hh
    · exact h.wf.blk i s us hh
  · have hi : i < pgs.length := by have := (List.getElem?_eq_some_iff.1 hh).1; omega
    rw [at_ i hi] at hh
    split at hh
    · cases hh
    · rename_i nr
      obtain ⟨m1, m2, m3⟩ := h.wf.big i d hh
      refine ⟨m1, by omega, fun j j1 j2 => ?_⟩
      have hr := m3 j j1 j2
      rw [at_ j (by omega)]
      have nf : ¬ (p ≤ j ∧ j < p + c) := fun hj => by
        -- two large things do not share a page
        by_cases ep : j = p
        · subst ep; rw [hx] at hr; cases hr
        · rcases Nat.lt_or_ge i p with q | q
          · have := m3 p q (by omega)
            rw [hx] at this; cases this
          · exact nr ⟨q, by omega⟩
      rw [if_neg nf]
      exact hr
  · have hj : j < pgs.length := by have := (List.getElem?_eq_some_iff.1 hh).1; omega
    rw [at_ j hj] at hh
    split at hh
    · cases hh
    · rename_i nr
      obtain ⟨i, d, i1, i2, i3⟩ := h.wf.rest j hh
      refine ⟨i, d, i1, i2, ?_⟩
      rw [at_ i (by omega)]
      have nf : ¬ (p ≤ i ∧ i < p + c) := fun hi => by
        by_cases ep : i = p
        · subst ep
          rw [hx] at i3
          cases i3
          exact nr ⟨by omega, by omega⟩
        · have := k3 i (by omega) hi.2
          rw [i3] at this; cases this
      rw [if_neg nf]
      exact i3
end Go.Proofs.YthmhehehomieiaaGreat

/- Take and Give, as the document says them of pages; that they have one answer; and that the document's own space does just that. Of numbers and lists alone. -/
namespace Go.Proofs.YthmhehehomieiaaGreat

def Run (pgs : List Pg) (p C : Nat) : Prop := ∀ i : Nat, p ≤ i → i < p + C → pgs[i]? = some .free

def noT : Value := .tuple #[.int .i64 0, .bool false]
def yesV (n : Int) : Value := .tuple #[.int .i64 n, .bool true]

/-- Take of C pages. -/
def TakeLA (F G : Int) (pgs : List Pg) (C : Nat) (e : Value) (pgs' : List Pg) : Prop :=
  (∃ p : Nat, p + C ≤ pgs.length ∧ Run pgs p C ∧ (∀ q : Nat, q < p → ¬ Run pgs q C) ∧ e = yesV (F + p * G) ∧ pgs' = bigAt pgs p C) ∨
  ((∀ q : Nat, q + C ≤ pgs.length → ¬ Run pgs q C) ∧ e = noT ∧ pgs' = pgs)

theorem TakeLA.one {F G : Int} {pgs qs rs : List Pg} {C : Nat} {d e : Value} (h : TakeLA F G pgs C d qs) (k : TakeLA F G pgs C e rs) : d = e ∧ qs = rs := by
  rcases h with ⟨p, a1, a2, a3, rfl, rfl⟩ | ⟨a1, rfl, rfl⟩ <;> rcases k with ⟨q, b1, b2, b3, rfl, rfl⟩ | ⟨b1, rfl, rfl⟩
  · obtain rfl : p = q := by
      rcases Nat.lt_trichotomy p q with l | l | l
      · exact absurd a2 (b3 p l)
      · exact l
      · exact absurd b2 (a3 q l)
    exact ⟨rfl, rfl⟩
  · exact absurd a2 (b1 p a1)
  · exact absurd b2 (a1 q b1)
  · exact ⟨rfl, rfl⟩

theorem runB_iff {F G : Int} {cs : List Rc} {pgs : List Pg} (g0 : 1 ≤ G) (h : Rel F G cs pgs) {p C : Nat} (hC : p + C ≤ pgs.length) : runB F G cs p C = true ↔ Run pgs p C := by
  rw [runB, List.all_eq_true]
  constructor
  · intro a i i1 i2
    have := a (i - p) (List.mem_range.2 (by omega))
    rw [show p + (i - p) = i by omega] at this
    exact (freeB_iff g0 h.wf h.perm (by omega)).1 this
  · intro a k hk
    have := List.mem_range.1 hk
    exact (freeB_iff g0 h.wf h.perm (by omega)).2 (a (p + k) (by omega) (by omega))

theorem takeL_pages {F G : Int} {cs cs' : List Rc} {pgs : List Pg} (g0 : 1 ≤ G) (h : Rel F G cs pgs) {C : Nat} (h1 : 1 ≤ C) {e : Value} (ht : TakeL F G pgs.length cs C e cs') : ∃ pgs', TakeLA F G pgs C e pgs' ∧ Rel F G cs' pgs' := by
  rcases ht with ⟨p, a1, a2, a3, rfl, rfl⟩ | ⟨a1, rfl, rfl⟩
  · have r := (runB_iff g0 h a1).1 a2
    exact ⟨_, Or.inl ⟨p, a1, r, fun q hq hr => absurd ((runB_iff g0 h (by omega)).2 hr) (by rw [a3 q hq]; exact Bool.false_ne_true), rfl, rfl⟩, h.large a1 h1 r⟩
  · exact ⟨pgs, Or.inr ⟨fun q hq hr => absurd ((runB_iff g0 h hq).2 hr) (by rw [a1 q hq]; exact Bool.false_ne_true), rfl, rfl⟩, h⟩

/-- A block of that size, not pending, with a cell that is not in use. -/
def RoomP (pgs : List Pg) (ps : List Bool) (s : Int) (p : Nat) : Prop := ∃ us, pgs[p]? = some (.blk s us) ∧ ps[p]? = some false ∧ false ∈ us

/-- Take of a cell of a size. -/
def TakeSA (F G : Int) (ps : List Bool) (pgs : List Pg) (s : Int) (e : Value) (pgs' : List Pg) : Prop :=
  (∃ (p j : Nat) (us : List Bool), pgs[p]? = some (.blk s us) ∧ ps[p]? = some false ∧ us[j]? = some false ∧ (∀ i : Nat, i < j → us[i]? ≠ some false) ∧ (∀ q : Nat, q < p → ¬ RoomP pgs ps s q) ∧ e = yesV (F + p * G + j * s) ∧ pgs' = pgs.set p (.blk s (us.set j true))) ∨
  ((∀ q : Nat, ¬ RoomP pgs ps s q) ∧
    ((∃ p : Nat, pgs[p]? = some .free ∧ (∀ q : Nat, q < p → pgs[q]? ≠ some .free) ∧ e = yesV (F + p * G) ∧ pgs' = pgs.set p (.blk s (us0 (G / s).toNat))) ∨
    ((∀ q : Nat, pgs[q]? ≠ some .free) ∧ e = noT ∧ pgs' = pgs)))

theorem TakeSA.one {F G : Int} {ps : List Bool} {pgs qs rs : List Pg} {s : Int} {d e : Value} (h : TakeSA F G ps pgs s d qs) (k : TakeSA F G ps pgs s e rs) : d = e ∧ qs = rs := by
  rcases h with ⟨p, j, us, a1, a2, a3, a4, a5, rfl, rfl⟩ | ⟨a0, a⟩ <;> rcases k with ⟨q, i, vs, b1, b2, b3, b4, b5, rfl, rfl⟩ | ⟨b0, b⟩
  · obtain rfl : p = q := by
      rcases Nat.lt_trichotomy p q with l | l | l
      · exact absurd ⟨us, a1, a2, List.mem_of_getElem? a3⟩ (b5 p l)
      · exact l
      · exact absurd ⟨vs, b1, b2, List.mem_of_getElem? b3⟩ (a5 q l)
    rw [a1] at b1
    cases b1
    obtain rfl : j = i := by
      rcases Nat.lt_trichotomy j i with l | l | l
      · exact absurd a3 (b4 j l)
      · exact l
      · exact absurd b3 (a4 i l)
    exact ⟨rfl, rfl⟩
  · exact absurd ⟨us, a1, a2, List.mem_of_getElem? a3⟩ (b0 p)
  · exact absurd ⟨vs, b1, b2, List.mem_of_getElem? b3⟩ (a0 q)
  · rcases a with ⟨p, a1, a2, rfl, rfl⟩ | ⟨a1, rfl, rfl⟩ <;> rcases b with ⟨q, b1, b2, rfl, rfl⟩ | ⟨b1, rfl, rfl⟩
    · obtain rfl : p = q := by
        rcases Nat.lt_trichotomy p q with l | l | l
        · exact absurd a1 (b2 p l)
        · exact l
        · exact absurd b1 (a2 q l)
      exact ⟨rfl, rfl⟩
    · exact absurd a1 (b1 p)
    · exact absurd b1 (a1 q)
    · exact ⟨rfl, rfl⟩

/-- Cells that may be taken are cells of blocks that have room. -/
theorem cand_blk {F G : Int} {cs : List Rc} {pgs : List Pg} (g0 : 1 ≤ G) (h : Rel F G cs pgs) {ps : List Bool} (hl : ps.length = pgs.length) {s : Int} {c : Rc} (hc : c ∈ cs) :
    candB F G ps s c = true ↔ ∃ (p j : Nat) (us : List Bool), pgs[p]? = some (.blk s us) ∧ ps[p]? = some false ∧ us[j]? = some false ∧ c = ⟨F + p * G + j * s, s, false, false⟩ := by
  constructor
  · intro hb
    simp only [candB, Bool.and_eq_true, Bool.not_eq_true', decide_eq_true_eq] at hb
    obtain ⟨⟨⟨b1, b2⟩, b3⟩, b4⟩ := hb
    obtain ⟨p, x, hx, hcx⟩ := mem_cellsP.1 (h.perm.mem_iff.1 hc)
    have hp := (List.getElem?_eq_some_iff.1 hx).1
    have e1 := (cell_pages g0 h.wf hx hcx).1
    rw [e1, Int.toNat_natCast] at b4
    cases x with
    | free => simp [Pg.cells] at hcx
    | rest => simp [Pg.cells] at hcx
    | big m => obtain rfl : c = ⟨F + p * G, m * G, true, true⟩ := by simpa [Pg.cells] using hcx
               cases b1
    | blk s' us =>
      obtain ⟨j, u, hu, rfl⟩ := mem_blk.1 hcx
      obtain rfl : s' = s := b3
      obtain rfl : u = false := b1
      have hpp : ps[p]? = some ps[p] := List.getElem?_eq_getElem (by omega)
      rw [hpp] at b4
      exact ⟨p, j, us, hx, by rw [hpp]; exact congrArg some b4, hu, rfl⟩
  · rintro ⟨p, j, us, hx, hps, hu, rfl⟩
    have e1 := (cell_pages (F := F) (c := ⟨F + p * G + j * s, s, false, false⟩) g0 h.wf hx (mem_blk.2 ⟨j, false, hu, rfl⟩)).1
    have e1 : ofI F G (F + p * G + j * s) = p := e1
    simp [candB, e1, hps]

theorem takeS_pages {F G : Int} {cs cs' : List Rc} {pgs : List Pg} (g0 : 1 ≤ G) (h : Rel F G cs pgs) {ps : List Bool} (hl : ps.length = pgs.length) {s : Int} (s0 : 4 ≤ s) (s1 : s ≤ G / 2) {e : Value} (ht : TakeS F G pgs.length ps cs s e cs') :
    ∃ pgs', TakeSA F G ps pgs s e pgs' ∧ Rel F G cs' pgs' := by
  have room : ∀ (q : Nat) (us : List Bool) (i : Nat), pgs[q]? = some (.blk s us) → ps[q]? = some false → us[i]? = some false → (⟨F + q * G + i * s, s, false, false⟩ : Rc) ∈ cs ∧ candB F G ps s ⟨F + q * G + i * s, s, false, false⟩ = true := fun q us i h1 h2 h3 => by
    have m : (⟨F + q * G + i * s, s, false, false⟩ : Rc) ∈ cs := h.perm.mem_iff.2 (mem_cellsP.2 ⟨q, _, h1, mem_blk.2 ⟨i, false, h3, rfl⟩⟩)
    exact ⟨m, (cand_blk g0 h hl m).2 ⟨q, i, us, h1, h2, h3, rfl⟩⟩
  rcases ht with ⟨b, c, a1, a2, a3, rfl, rfl⟩ | ⟨a0, a⟩
  · obtain ⟨p, j, us, hx, hps, hu, rfl⟩ := (cand_blk g0 h hl (List.mem_of_getElem? a1)).1 a2
    obtain ⟨_, _, hlen, _⟩ := h.wf.blk p s us hx
    refine ⟨_, Or.inl ⟨p, j, us, hx, hps, hu, fun i hi hui => ?_, fun q hq => ?_, rfl, rfl⟩, h.reuse hx hu a1⟩
    · obtain ⟨m, hb⟩ := room p us i hx hps hui
      have l : F + (p : Int) * G + (j : Int) * s ≤ F + (p : Int) * G + (i : Int) * s := a3 _ m hb
      have := Int.mul_lt_mul_of_pos_right (show (i : Int) < j by omega) (show 0 < s by omega)
      omega
    · rintro ⟨vs, b1, b2, b3⟩
      obtain ⟨i, hi, e⟩ := List.getElem_of_mem b3
      have hv : vs[i]? = some false := by rw [List.getElem?_eq_getElem hi, e]
      obtain ⟨m, hb⟩ := room q vs i b1 b2 hv
      have l : F + (p : Int) * G + (j : Int) * s ≤ F + (q : Int) * G + (i : Int) * s := a3 _ m hb
      obtain ⟨_, _, vlen, _⟩ := h.wf.blk q s vs b1
      obtain ⟨p0, p1⟩ := in_page s0 vlen hi
      have js : (0 : Int) ≤ (j : Int) * s := Int.mul_nonneg (by omega) (by omega)
      have h3 := Int.mul_le_mul_of_nonneg_right (show (q : Int) + 1 ≤ p by omega) (show 0 ≤ G by omega)
      rw [Int.add_mul, Int.one_mul] at h3
      omega
  · have none : ∀ q, ¬ RoomP pgs ps s q := fun q => by
      rintro ⟨vs, b1, b2, b3⟩
      obtain ⟨i, hi, e⟩ := List.getElem_of_mem b3
      obtain ⟨m, hb⟩ := room q vs i b1 b2 (by rw [List.getElem?_eq_getElem hi, e])
      rw [a0 _ m] at hb
      cases hb
    rcases a with ⟨p, b1, b2, b3, rfl, rfl⟩ | ⟨b1, rfl, rfl⟩
    · have hx := (freeB_iff g0 h.wf h.perm b1).1 b2
      exact ⟨_, Or.inr ⟨none, Or.inl ⟨p, hx, fun q hq hf => absurd ((freeB_iff g0 h.wf h.perm (by omega)).2 hf) (by rw [b3 q hq]; exact Bool.false_ne_true), rfl, rfl⟩⟩, h.fresh hx s0 s1⟩
    · exact ⟨pgs, Or.inr ⟨none, Or.inr ⟨fun q hf => absurd ((freeB_iff g0 h.wf h.perm (List.getElem?_eq_some_iff.1 hf).1).2 hf) (by rw [b1 q (List.getElem?_eq_some_iff.1 hf).1]; exact Bool.false_ne_true), rfl, rfl⟩⟩, h⟩
end Go.Proofs.YthmhehehomieiaaGreat

/- Give, as the document says it of pages; that it has one answer; and that the document's own space does just that. Of numbers and lists alone. -/
namespace Go.Proofs.YthmhehehomieiaaGreat

/-- Give of a place. -/
def GiveA (F G : Int) (ps : List Bool) (pgs : List Pg) (n : Int) (ok : Bool) (pgs' : List Pg) (ps' : List Bool) : Prop :=
  ((cellsP F G pgs).find? (hitB n) = none ∧ ok = false ∧ pgs' = pgs ∧ ps' = ps) ∨
  (∃ (p j : Nat) (s : Int) (us : List Bool), pgs[p]? = some (.blk s us) ∧ us[j]? = some true ∧ n = F + p * G + j * s ∧ ok = true ∧
    ((true ∈ us.set j false ∧ pgs' = pgs.set p (.blk s (us.set j false)) ∧ ps' = ps) ∨ (true ∉ us.set j false ∧ pgs' = pgs.set p .free ∧ ps' = ps.set p false))) ∨
  (∃ p c : Nat, pgs[p]? = some (.big c) ∧ n = F + p * G ∧ ok = true ∧ pgs' = fill pgs .free p c ∧ ps' = ps.set p false)

theorem GiveA.one {F G : Int} {ps ps1 ps2 : List Bool} {pgs qs rs : List Pg} {n : Int} {d e : Bool} (g0 : 1 ≤ G) (wf : WF G pgs) (h : GiveA F G ps pgs n d qs ps1) (k : GiveA F G ps pgs n e rs ps2) : d = e ∧ qs = rs ∧ ps1 = ps2 := by
  have hitb : ∀ (p j : Nat) (s : Int) (us : List Bool), pgs[p]? = some (.blk s us) → us[j]? = some true → n = F + p * G + j * s → (⟨n, s, true, false⟩ : Rc) ∈ cellsP F G pgs := fun p j s us h1 h2 h3 => by
    subst h3
    exact mem_cellsP.2 ⟨p, _, h1, mem_blk.2 ⟨j, true, h2, rfl⟩⟩
  have hitl : ∀ p c : Nat, pgs[p]? = some (.big c) → n = F + p * G → (⟨n, c * G, true, true⟩ : Rc) ∈ cellsP F G pgs := fun p c h1 h3 => by
    subst h3
    exact mem_cellsP.2 ⟨p, _, h1, by simp [Pg.cells]⟩
  have no : ∀ c : Rc, c ∈ cellsP F G pgs → c.pos = n → c.used = true → (cellsP F G pgs).find? (hitB n) ≠ none := fun c hc h1 h2 hn => by
    rw [List.find?_eq_none] at hn
    exact hn c hc (by simp [hitB, h1, h2])
  have pg : ∀ (p : Nat) (x : Pg) (c : Rc), pgs[p]? = some x → c ∈ x.cells F G p → c.pos = n → ofI F G n = p := fun p x c h1 h2 h3 => by rw [← h3]; exact (cell_pages g0 wf h1 h2).1
  rcases h with ⟨a1, rfl, rfl, rfl⟩ | ⟨p, j, s, us, a1, a2, a3, rfl, a4⟩ | ⟨p, c, a1, a2, rfl, rfl, rfl⟩ <;> rcases k with ⟨b1, rfl, rfl, rfl⟩ | ⟨q, i, t, vs, b1, b2, b3, rfl, b4⟩ | ⟨q, m, b1, b2, rfl, rfl, rfl⟩
  · exact ⟨rfl, rfl, rfl⟩
  · exact absurd a1 (no _ (hitb q i t vs b1 b2 b3) rfl rfl)
  · exact absurd a1 (no _ (hitl q m b1 b2) rfl rfl)
  · exact absurd b1 (no _ (hitb p j s us a1 a2 a3) rfl rfl)
  · have e1 := pg p _ ⟨n, s, true, false⟩ a1 (by rw [a3]; exact mem_blk.2 ⟨j, true, a2, rfl⟩) rfl
    have e2 := pg q _ ⟨n, t, true, false⟩ b1 (by rw [b3]; exact mem_blk.2 ⟨i, true, b2, rfl⟩) rfl
    obtain rfl : p = q := by omega
    rw [a1] at b1
    cases b1
    obtain ⟨s0, _⟩ := wf.blk p s us a1
    obtain rfl : j = i := by
      have e3 : (j : Int) * s = (i : Int) * s := by omega
      have := Int.eq_of_mul_eq_mul_right (show s ≠ 0 by omega) e3
      omega
    rcases a4 with ⟨a5, rfl, rfl⟩ | ⟨a5, rfl, rfl⟩ <;> rcases b4 with ⟨b5, rfl, rfl⟩ | ⟨b5, rfl, rfl⟩
    · exact ⟨rfl, rfl, rfl⟩
    · exact absurd a5 b5
    · exact absurd b5 a5
    · exact ⟨rfl, rfl, rfl⟩
  · have e := pos_unique g0 wf (hitb p j s us a1 a2 a3) (hitl q m b1 b2) rfl
    cases e
  · exact absurd b1 (no _ (hitl p c a1 a2) rfl rfl)
  · have e := pos_unique g0 wf (hitl p c a1 a2) (hitb q i t vs b1 b2 b3) rfl
    cases e
  · have e1 := pg p _ ⟨n, c * G, true, true⟩ a1 (by rw [a2]; simp [Pg.cells]) rfl
    have e2 := pg q _ ⟨n, m * G, true, true⟩ b1 (by rw [b2]; simp [Pg.cells]) rfl
    obtain rfl : p = q := by omega
    rw [a1] at b1
    cases b1
    exact ⟨rfl, rfl, rfl⟩

theorem someB_perm {F G n : Int} {cs ds : List Rc} (h : cs.Perm ds) : someB F G n cs = someB F G n ds := by
  have : ∀ xs ys : List Rc, xs.Perm ys → someB F G n xs = true → someB F G n ys = true := fun xs ys hp hx => by
    rw [someB, List.any_eq_true] at hx ⊢
    obtain ⟨c, hc, hb⟩ := hx
    exact ⟨c, hp.mem_iff.1 hc, hb⟩
  cases e1 : someB F G n cs <;> cases e2 : someB F G n ds
  · rfl
  · rw [this ds cs h.symm e2] at e1; cases e1
  · rw [this cs ds h e1] at e2; cases e2
  · rfl

/-- What is in use of what begins in a page that has turned into y. -/
theorem someB_page {F G : Int} {pgs : List Pg} (g0 : 1 ≤ G) (wf : WF G pgs) {p : Nat} (hp : p < pgs.length) {ds : List Rc} {y : Pg} (hd : ds.Perm (cellsP F G (pgs.set p y))) (hy : ∀ c ∈ y.cells F G p, ofI F G c.pos = p) :
    someB F G p ds = (y.cells F G p).any Rc.used := by
  obtain ⟨A, B, e, ho⟩ := cellsP_split F G pgs p hp
  rw [someB_perm hd, e]
  have far : ∀ c ∈ A ++ B, (decide (ofI F G c.pos = p) && c.used) = false := fun c hc => by
    obtain ⟨i, x, hi, hx, hcx⟩ := ho c hc
    have := (cell_pages g0 wf hx hcx).1
    rw [this, decide_eq_false (by omega), Bool.false_and]
  unfold someB
  have zA : (A.any fun c => decide (ofI F G c.pos = p) && c.used) = false := List.any_eq_false.2 fun c hc => by rw [far c (List.mem_append_left _ hc)]; exact Bool.false_ne_true
  have zB : (B.any fun c => decide (ofI F G c.pos = p) && c.used) = false := List.any_eq_false.2 fun c hc => by rw [far c (List.mem_append_right _ hc)]; exact Bool.false_ne_true
  rw [List.any_append, List.any_append, zA, zB, Bool.false_or, Bool.or_false]
  cases e1 : (y.cells F G p).any Rc.used
  · rw [List.any_eq_false] at e1 ⊢
    intro c hc hb
    simp only [Bool.and_eq_true] at hb
    exact e1 c hc hb.2
  · rw [List.any_eq_true] at e1 ⊢
    obtain ⟨c, hc, hb⟩ := e1
    exact ⟨c, hc, by rw [hb, decide_eq_true (hy c hc)]; rfl⟩

theorem blk_any {F G : Int} {p : Nat} {s : Int} {us : List Bool} : ((Pg.blk s us).cells F G p).any Rc.used = true ↔ true ∈ us := by
  rw [List.any_eq_true]
  constructor
  · rintro ⟨c, hc, hb⟩
    obtain ⟨j, u, hu, rfl⟩ := mem_blk.1 hc
    obtain rfl : u = true := hb
    exact List.mem_of_getElem? hu
  · intro h
    obtain ⟨j, hj, e⟩ := List.getElem_of_mem h
    exact ⟨⟨F + p * G + j * s, s, true, false⟩, mem_blk.2 ⟨j, true, by rw [List.getElem?_eq_getElem hj, e], rfl⟩, rfl⟩

theorem give_pages {F G : Int} {cs : List Rc} {pgs : List Pg} (g0 : 1 ≤ G) (h : Rel F G cs pgs) (ps : List Bool) (n : Int) :
    ∃ pgs', GiveA F G ps pgs n (cs.findIdx? (hitB n)).isSome pgs' (giveP F G n cs ps) ∧ Rel F G (giveC F G n cs) pgs' := by
  cases hf : cs.findIdx? (hitB n) with
  | none =>
    refine ⟨pgs, Or.inl ⟨?_, rfl, rfl, by simp only [giveP, hf]⟩, by simp only [giveC, hf]; exact h⟩
    rw [← find_eq g0 h n, List.find?_eq_none]
    rw [List.findIdx?_eq_none_iff] at hf
    exact fun c hc => by rw [hf c hc]; exact Bool.false_ne_true
  | some i =>
    obtain ⟨hil, hhit, _⟩ := List.findIdx?_eq_some_iff_getElem.1 hf
    have hc : cs[i]? = some cs[i] := List.getElem?_eq_getElem hil
    generalize cs[i] = c at hc hhit
    simp only [hitB, Bool.and_eq_true, decide_eq_true_eq] at hhit
    obtain ⟨rfl, hu⟩ := hhit
    have em := modify_set cs i c (fun c => { c with used := false }) hc
    simp only [giveC, giveP, hf, em]
    obtain ⟨p, x, hx, hcx⟩ := mem_cellsP.1 (h.perm.mem_iff.1 (List.mem_of_getElem? hc))
    have hp := (List.getElem?_eq_some_iff.1 hx).1
    have e1 := (cell_pages g0 h.wf hx hcx).1
    rw [e1, Int.toNat_natCast]
    cases x with
    | free => simp [Pg.cells] at hcx
    | rest => simp [Pg.cells] at hcx
    | big m =>
      obtain rfl : c = ⟨F + p * G, m * G, true, true⟩ := by simpa [Pg.cells] using hcx
      have hd : someB F G p (cs.set i ⟨F + p * G, m * G, false, true⟩) = false := by
        obtain ⟨A, B, e, ho⟩ := cellsP_split F G pgs p hp
        have e0 := e (.big m)
        rw [set_same hx] at e0
        have hp0 := h.perm
        rw [e0] at hp0
        rw [someB_perm (perm_set (c' := ⟨F + p * G, m * G, false, true⟩) hc hp0), someB, List.any_eq_false]
        intro d hd hb
        simp only [Bool.and_eq_true, decide_eq_true_eq] at hb
        rcases List.mem_append.1 hd with hd | hd
        · obtain ⟨q, y, hq, hy, hdy⟩ := ho d (List.mem_append_left _ hd)
          have := (cell_pages g0 h.wf hy hdy).1
          omega
        · rcases List.mem_cons.1 hd with rfl | hd
          · cases hb.2
          · obtain ⟨q, y, hq, hy, hdy⟩ := ho d (List.mem_append_right _ hd)
            have := (cell_pages g0 h.wf hy hdy).1
            omega
      rw [hd, if_neg Bool.false_ne_true, if_neg Bool.false_ne_true]
      exact ⟨_, Or.inr (Or.inr ⟨p, m, hx, rfl, rfl, rfl, rfl⟩), h.unlarge g0 hx hc⟩
    | blk s us =>
      obtain ⟨j, u, hj, rfl⟩ := mem_blk.1 hcx
      obtain rfl : u = true := hu
      obtain ⟨k1, _, k3, _⟩ := h.wf.blk p s us hx
      have hd := someB_page g0 h.wf hp (perm_turn h.perm hx hj hc false) fun c hc => by
        obtain ⟨i, v, hv, rfl⟩ := mem_blk.1 hc
        have hi := (List.getElem?_eq_some_iff.1 hv).1
        rw [List.length_set] at hi
        obtain ⟨p0, p1⟩ := in_page k1 k3 hi
        exact ofI_at g0 p _ p0 (by omega)
      by_cases ht : true ∈ us.set j false
      · rw [hd, if_pos (blk_any.2 ht), if_pos (blk_any.2 ht)]
        exact ⟨_, Or.inr (Or.inl ⟨p, j, s, us, hx, hj, rfl, rfl, Or.inl ⟨ht, rfl, rfl⟩⟩), h.lessen hx hj hc ht⟩
      · rw [hd, if_neg (fun e => ht (blk_any.1 e)), if_neg (fun e => ht (blk_any.1 e))]
        exact ⟨_, Or.inr (Or.inl ⟨p, j, s, us, hx, hj, rfl, rfl, Or.inr ⟨ht, rfl, rfl⟩⟩), h.empty g0 hx hj hc⟩

/-- Nothing: pages that are all free. -/
theorem Rel.new (F G : Int) (N : Nat) : Rel F G [] (List.replicate N .free) := by
  have no : ∀ (i : Nat) (x : Pg), (List.replicate N Pg.free)[i]? = some x → x = .free := fun i x h => by
    rw [List.getElem?_replicate] at h
    split at h
    · cases h; rfl
    · cases h
  refine ⟨?_, ⟨fun i s us h => ?_, fun i c h => ?_, fun j h => ?_⟩⟩
  · have : cellsP F G (List.replicate N .free) = [] := by
      rw [List.eq_nil_iff_forall_not_mem]
      intro c hc
      obtain ⟨i, x, hx, hcx⟩ := mem_cellsP.1 hc
      rw [no i x hx] at hcx
      simp [Pg.cells] at hcx
    rw [this]
  · cases no i _ h
  · cases no i _ h
  · cases no j _ h
end Go.Proofs.YthmhehehomieiaaGreat

/- The document's space, said of pages: what lies in memory, and the contracts of its calls. -/
namespace Go.Proofs.YthmhehehomieiaaGreat
open Go.RowKit


theorem cellsP_few {F G : Int} {pgs : List Pg} (g1 : G ≤ 256) (wf : WF G pgs) : (cellsP F G pgs).length ≤ pgs.length * 64 := by
  unfold cellsP
  rw [List.length_flatMap]
  have one : ∀ i ∈ List.range pgs.length, ((pgs.getD i .free).cells F G i).length ≤ 64 := fun i hi => by
    have hi := List.mem_range.1 hi
    have hx : pgs[i]? = some pgs[i] := List.getElem?_eq_getElem hi
    rw [List.getD_eq_getElem?_getD, hx, Option.getD_some]
    generalize pgs[i] = x at hx
    cases x with
    | free => simp [Pg.cells]
    | rest => simp [Pg.cells]
    | big m => simp [Pg.cells]
    | blk s us =>
      obtain ⟨s0, s1, hl, _⟩ := wf.blk i s us hx
      have h1 : G / s ≤ G / 4 := by
        refine Int.le_ediv_of_mul_le (by omega) ?_
        have h1 := Int.mul_le_mul_of_nonneg_left s0 (show 0 ≤ G / s by omega)
        have h2 := Int.ediv_mul_le G (show s ≠ 0 by omega)
        omega
      show ((List.range us.length).map _).length ≤ 64
      rw [List.length_map, List.length_range]
      omega
  have sum : ∀ l : List Nat, (∀ i ∈ l, ((pgs.getD i .free).cells F G i).length ≤ 64) → (l.map fun i => ((pgs.getD i .free).cells F G i).length).sum ≤ l.length * 64 := by
    intro l
    induction l with
    | nil => intro _; simp
    | cons i l ih =>
      intro h
      have h1 := h i (List.mem_cons_self ..)
      have h2 := ih fun k hk => h k (List.mem_cons_of_mem _ hk)
      simp only [List.map_cons, List.sum_cons, List.length_cons]
      omega
  have := sum _ one
  rwa [List.length_range] at this

theorem Rel.pages {F G : Int} {cs : List Rc} {pgs : List Pg} (g0 : 1 ≤ G) (h : Rel F G cs pgs) {N : Nat} (hN : pgs.length = N) : ∀ c ∈ cs, 0 ≤ ofI F G c.pos ∧ ofI F G c.pos < N := fun c hc => by
  obtain ⟨i, x, hx, hcx⟩ := mem_cellsP.1 (h.perm.mem_iff.1 hc)
  have := (cell_pages g0 h.wf hx hcx).1
  have := (List.getElem?_eq_some_iff.1 hx).1
  omega

theorem Rel.few {F G : Int} {cs : List Rc} {pgs : List Pg} (g1 : G ≤ 256) (h : Rel F G cs pgs) (hN : pgs.length ≤ 64) : cs.length ≤ 900000 := by
  have := cellsP_few (F := F) g1 h.wf
  rw [h.perm.length_eq]
  omega



/-- Take, as the document says it of pages. -/
def TakeA (F G : Int) (ps : List Bool) (pgs : List Pg) (n : Int) (e : Value) (pgs' : List Pg) : Prop :=
  (n < 1 ∧ e = noT ∧ pgs' = pgs) ∨ (¬ n < 1 ∧ G / 2 < roundI n ∧ TakeLA F G pgs (pagesI G n).toNat e pgs') ∨ (¬ n < 1 ∧ ¬ G / 2 < roundI n ∧ TakeSA F G ps pgs (roundI n) e pgs')

theorem TakeA.one {F G : Int} {ps : List Bool} {pgs qs rs : List Pg} {n : Int} {d e : Value} (h : TakeA F G ps pgs n d qs) (k : TakeA F G ps pgs n e rs) : d = e ∧ qs = rs := by
  rcases h with ⟨a1, rfl, rfl⟩ | ⟨a1, a2, a3⟩ | ⟨a1, a2, a3⟩ <;> rcases k with ⟨b1, rfl, rfl⟩ | ⟨b1, b2, b3⟩ | ⟨b1, b2, b3⟩
  · exact ⟨rfl, rfl⟩
  · exact absurd a1 b1
  · exact absurd a1 b1
  · exact absurd b1 a1
  · exact a3.one b3
  · exact absurd a2 b2
  · exact absurd b1 a1
  · exact absurd b2 a2
  · exact a3.one b3


theorem TakeLA.length {F G : Int} {pgs pgs' : List Pg} {C : Nat} {e : Value} (h : TakeLA F G pgs C e pgs') : pgs'.length = pgs.length := by
  rcases h with ⟨p, _, _, _, _, rfl⟩ | ⟨_, _, rfl⟩
  · rw [bigAt, List.length_set, fill_length]
  · rfl

theorem TakeSA.length {F G : Int} {ps : List Bool} {pgs pgs' : List Pg} {s : Int} {e : Value} (h : TakeSA F G ps pgs s e pgs') : pgs'.length = pgs.length := by
  rcases h with ⟨p, j, us, _, _, _, _, _, _, rfl⟩ | ⟨_, ⟨p, _, _, _, rfl⟩ | ⟨_, _, rfl⟩⟩
  · rw [List.length_set]
  · rw [List.length_set]
  · rfl


theorem GiveA.length {F G : Int} {ps ps' : List Bool} {pgs pgs' : List Pg} {n : Int} {ok : Bool} (h : GiveA F G ps pgs n ok pgs' ps') : pgs'.length = pgs.length ∧ ps'.length = ps.length := by
  rcases h with ⟨_, _, rfl, rfl⟩ | ⟨p, j, s, us, _, _, _, _, ⟨_, rfl, rfl⟩ | ⟨_, rfl, rfl⟩⟩ | ⟨p, c, _, _, _, rfl, rfl⟩
  · exact ⟨rfl, rfl⟩
  · exact ⟨List.length_set .., rfl⟩
  · exact ⟨List.length_set .., List.length_set ..⟩
  · exact ⟨fill_length .., List.length_set ..⟩






end Go.Proofs.YthmhehehomieiaaGreat

/- Where what is in use begins; that it lies apart and within the pages; how Take and Give turn it. Of numbers and lists alone. -/
namespace Go.Proofs.YthmhehehomieiaaGreat

def usedP (F G : Int) (pgs : List Pg) : List Int := ((cellsP F G pgs).filter Rc.used).map Rc.pos

/-- Two cells do not meet. -/
theorem cells_apart {F G : Int} {pgs : List Pg} (g0 : 1 ≤ G) (wf : WF G pgs) {c d : Rc} (hc : c ∈ cellsP F G pgs) (hd : d ∈ cellsP F G pgs) (ne : c.pos < d.pos) : c.pos + c.words ≤ d.pos := by
  obtain ⟨i, x, hx, hcx⟩ := mem_cellsP.1 hc
  obtain ⟨k, y, hy, hdy⟩ := mem_cellsP.1 hd
  have start : ∀ (i : Nat) (x : Pg) (c : Rc), pgs[i]? = some x → c ∈ x.cells F G i → F + i * G ≤ c.pos ∧ c.pos < F + i * G + G := fun i x c hx hc => by
    cases x with
    | free => simp [Pg.cells] at hc
    | rest => simp [Pg.cells] at hc
    | big m => obtain rfl : c = ⟨F + i * G, m * G, true, true⟩ := by simpa [Pg.cells] using hc
               exact ⟨Int.le_refl _, by show F + (i : Int) * G < F + (i : Int) * G + G; omega⟩
    | blk s us =>
      obtain ⟨j, u, hu, rfl⟩ := mem_blk.1 hc
      obtain ⟨s0, _, hl, _⟩ := wf.blk i s us hx
      obtain ⟨p0, p1⟩ := in_page s0 hl (List.getElem?_eq_some_iff.1 hu).1
      exact ⟨by show F + (i : Int) * G ≤ F + (i : Int) * G + (j : Int) * s; omega, by show F + (i : Int) * G + (j : Int) * s < F + (i : Int) * G + G; omega⟩
  have sc := start i x c hx hcx
  have sd := start k y d hy hdy
  have ik : i ≤ k := by
    rcases Nat.lt_or_ge k i with l | l
    · have := Int.mul_le_mul_of_nonneg_right (show (k : Int) + 1 ≤ i by omega) (show 0 ≤ G by omega)
      rw [Int.add_mul, Int.one_mul] at this
      omega
    · exact l
  cases x with
  | free => simp [Pg.cells] at hcx
  | rest => simp [Pg.cells] at hcx
  | big m =>
    obtain rfl : c = ⟨F + i * G, m * G, true, true⟩ := by simpa [Pg.cells] using hcx
    show F + (i : Int) * G + (m : Int) * G ≤ d.pos
    obtain ⟨m1, m2, m3⟩ := wf.big i m hx
    have far : i + m ≤ k := by
      rcases Nat.lt_or_ge k (i + m) with l | l
      · by_cases e : k = i
        · subst e
          rw [hx] at hy
          cases hy
          obtain rfl : d = ⟨F + k * G, m * G, true, true⟩ := by simpa [Pg.cells] using hdy
          exact absurd ne (by show ¬ F + (k : Int) * G < F + (k : Int) * G; omega)
        · rw [m3 k (by omega) l] at hy
          cases hy
          simp [Pg.cells] at hdy
      · exact l
    have := Int.mul_le_mul_of_nonneg_right (show (i : Int) + m ≤ k by omega) (show 0 ≤ G by omega)
    rw [Int.add_mul] at this
    omega
  | blk s us =>
    obtain ⟨j, u, hu, rfl⟩ := mem_blk.1 hcx
    obtain ⟨s0, _, hl, _⟩ := wf.blk i s us hx
    obtain ⟨p0, p1⟩ := in_page s0 hl (List.getElem?_eq_some_iff.1 hu).1
    show F + (i : Int) * G + (j : Int) * s + s ≤ d.pos
    by_cases e : k = i
    · subst e
      rw [hx] at hy
      cases hy
      obtain ⟨j', u', hu', rfl⟩ := mem_blk.1 hdy
      have ne : F + (k : Int) * G + (j : Int) * s < F + (k : Int) * G + (j' : Int) * s := ne
      show F + (k : Int) * G + (j : Int) * s + s ≤ F + (k : Int) * G + (j' : Int) * s
      have jj : j < j' := by
        rcases Nat.lt_or_ge j j' with l | l
        · exact l
        · have := Int.mul_le_mul_of_nonneg_right (show (j' : Int) ≤ j by omega) (show 0 ≤ s by omega)
          omega
      have := Int.mul_le_mul_of_nonneg_right (show (j : Int) + 1 ≤ j' by omega) (show 0 ≤ s by omega)
      rw [Int.add_mul, Int.one_mul] at this
      omega
    · have := Int.mul_le_mul_of_nonneg_right (show (i : Int) + 1 ≤ k by omega) (show 0 ≤ G by omega)
      rw [Int.add_mul, Int.one_mul] at this
      omega

/-- A cell lies within the pages. -/
theorem cells_within {F G : Int} {pgs : List Pg} (g0 : 1 ≤ G) (wf : WF G pgs) {c : Rc} (hc : c ∈ cellsP F G pgs) : F ≤ c.pos ∧ c.pos + c.words ≤ F + pgs.length * G := by
  obtain ⟨i, x, hx, hcx⟩ := mem_cellsP.1 hc
  have hi := (List.getElem?_eq_some_iff.1 hx).1
  have i0 : (0 : Int) ≤ (i : Int) * G := Int.mul_nonneg (by omega) (by omega)
  cases x with
  | free => simp [Pg.cells] at hcx
  | rest => simp [Pg.cells] at hcx
  | big m =>
    obtain rfl : c = ⟨F + i * G, m * G, true, true⟩ := by simpa [Pg.cells] using hcx
    obtain ⟨m1, m2, _⟩ := wf.big i m hx
    have := Int.mul_le_mul_of_nonneg_right (show (i : Int) + m ≤ pgs.length by omega) (show 0 ≤ G by omega)
    rw [Int.add_mul] at this
    exact ⟨by show F ≤ F + (i : Int) * G; omega, by show F + (i : Int) * G + (m : Int) * G ≤ F + (pgs.length : Int) * G; omega⟩
  | blk s us =>
    obtain ⟨j, u, hu, rfl⟩ := mem_blk.1 hcx
    obtain ⟨s0, _, hl, _⟩ := wf.blk i s us hx
    obtain ⟨p0, p1⟩ := in_page s0 hl (List.getElem?_eq_some_iff.1 hu).1
    have := Int.mul_le_mul_of_nonneg_right (show (i : Int) + 1 ≤ pgs.length by omega) (show 0 ≤ G by omega)
    rw [Int.add_mul, Int.one_mul] at this
    exact ⟨by show F ≤ F + (i : Int) * G + (j : Int) * s; omega, by show F + (i : Int) * G + (j : Int) * s + s ≤ F + (pgs.length : Int) * G; omega⟩

theorem used_perm {cs ds : List Rc} (h : cs.Perm ds) : ((cs.filter Rc.used).map Rc.pos).Perm ((ds.filter Rc.used).map Rc.pos) := (h.filter _).map _

theorem get_split {cs : List Rc} {b : Nat} {c : Rc} (h : cs[b]? = some c) : cs = cs.take b ++ c :: cs.drop (b + 1) := by
  obtain ⟨hb, e⟩ := List.getElem?_eq_some_iff.1 h
  rw [← e, ← List.drop_eq_getElem_cons hb, List.take_append_drop]

theorem used_set {cs : List Rc} {b : Nat} {c d : Rc} (h : cs[b]? = some c) (hc : c.used = false) (hd : d.used = true) : (((cs.set b d).filter Rc.used).map Rc.pos).Perm (d.pos :: (cs.filter Rc.used).map Rc.pos) := by
  have e := get_split h
  have hp : (cs.set b d).Perm (cs.take b ++ d :: cs.drop (b + 1)) := perm_set h (by rw [← e])
  refine (used_perm hp).trans ?_
  have e2 : cs.filter Rc.used = (cs.take b).filter Rc.used ++ (cs.drop (b + 1)).filter Rc.used := by
    conv => lhs; rw [e]
    rw [List.filter_append, List.filter_cons_of_neg (by rw [hc]; exact Bool.false_ne_true)]
  rw [e2, List.filter_append, List.filter_cons_of_pos hd, List.map_append, List.map_cons, List.map_append]
  exact List.perm_middle

theorem used_unset {cs : List Rc} {b : Nat} {c d : Rc} (h : cs[b]? = some c) (hc : c.used = true) (hd : d.used = false) : ((cs.filter Rc.used).map Rc.pos).Perm (c.pos :: ((cs.set b d).filter Rc.used).map Rc.pos) := by
  have e := get_split h
  have hp : (cs.set b d).Perm (cs.take b ++ d :: cs.drop (b + 1)) := perm_set h (by rw [← e])
  refine List.Perm.trans ?_ ((used_perm hp).symm.cons c.pos)
  rw [List.filter_append, List.filter_cons_of_neg (by rw [hd]; exact Bool.false_ne_true), List.map_append]
  have e2 : cs.filter Rc.used = (cs.take b).filter Rc.used ++ c :: (cs.drop (b + 1)).filter Rc.used := by
    conv => lhs; rw [e]
    rw [List.filter_append, List.filter_cons_of_pos hc]
  rw [e2, List.map_append, List.map_cons]
  exact List.perm_middle

theorem newC_used (p s : Int) (k : Nat) : ((newC p s (k + 1)).filter Rc.used).map Rc.pos = [p] := by
  induction k with
  | zero => simp [newC, List.range_succ]
  | succ k ih =>
    rw [newC_succ, List.filter_append, List.map_append, ih, List.filter_cons_of_neg (by simp)]
    rfl

/-- What is taken is in use from then on. -/
theorem take_used {F G : Int} {ps : List Bool} {pgs pgs' : List Pg} {n x : Int} (g0 : 1 ≤ G) (g1 : G ≤ 256) (wf : WF G pgs) (h : TakeA F G ps pgs n (yesV x) pgs') :
    (usedP F G pgs').Perm (x :: usedP F G pgs) ∧ WF G pgs' ∧ ∃ c ∈ cellsP F G pgs', c.pos = x ∧ c.used = true ∧ n ≤ c.words := by
  have base : Rel F G (cellsP F G pgs) pgs := ⟨List.Perm.refl _, wf⟩
  have ex : ∀ y : Int, yesV x = yesV y → y = x := fun y e => by
    have : (#[Value.int .i64 x, .bool true] : Array Value) = #[.int .i64 y, .bool true] := by injection e
    simp at this
    exact this.symm
  have fin : ∀ (cs' : List Rc) (d : Rc), Rel F G cs' pgs' → d ∈ cs' → d.pos = x → d.used = true → n ≤ d.words → ((cs'.filter Rc.used).map Rc.pos).Perm (x :: usedP F G pgs) → (usedP F G pgs').Perm (x :: usedP F G pgs) ∧ WF G pgs' ∧ ∃ c ∈ cellsP F G pgs', c.pos = x ∧ c.used = true ∧ n ≤ c.words :=
    fun cs' d r hd h1 h2 h3 hp => ⟨(used_perm r.perm).symm.trans hp, r.wf, d, r.perm.mem_iff.1 hd, h1, h2, h3⟩
  rcases h with ⟨_, e, _⟩ | ⟨hn, hl, t⟩ | ⟨hn, hl, t⟩
  · cases e
  · rcases t with ⟨p, a1, a2, _, e, rfl⟩ | ⟨_, e, _⟩
    · have pe := pagesI_enough (p := G) (n := n) g0 (by omega)
      have e := ex _ e
      refine fin _ ⟨F + p * G, (pagesI G n).toNat * G, true, true⟩ (base.large a1 (by omega) a2) (by simp) e rfl ?_ ?_
      · show n ≤ ((pagesI G n).toNat : Int) * G
        rw [Int.toNat_of_nonneg (by omega)]
        omega
      · rw [List.filter_append, List.map_append]
        show (usedP F G pgs ++ [F + (p : Int) * G]).Perm _
        rw [e]
        exact List.perm_append_singleton x _
    · cases e
  · have nn : n ≤ roundI n := by
      rcases Int.lt_or_le 1099511627776 n with l | l
      · have h1 := roundI_mono (show 1099511627776 ≤ n by omega)
        rw [show roundI 1099511627776 = 1099511627776 by decide] at h1
        omega
      · exact roundI_ge l
    rcases t with ⟨p, j, us, a1, a2, a3, a4, a5, e, rfl⟩ | ⟨_, ⟨p, a1, _, e, rfl⟩ | ⟨_, e, _⟩⟩
    · have e := ex _ e
      obtain ⟨k1, k2, k3, _⟩ := wf.blk p _ us a1
      have hm : (⟨F + p * G + j * roundI n, roundI n, false, false⟩ : Rc) ∈ cellsP F G pgs := mem_cellsP.2 ⟨p, _, a1, mem_blk.2 ⟨j, false, a3, rfl⟩⟩
      obtain ⟨b, hb, eb⟩ := List.getElem_of_mem hm
      have hb : (cellsP F G pgs)[b]? = some ⟨F + p * G + j * roundI n, roundI n, false, false⟩ := by rw [List.getElem?_eq_getElem hb, eb]
      have r := base.reuse a1 a3 hb
      refine fin _ ⟨F + p * G + j * roundI n, roundI n, true, false⟩ r (List.mem_of_getElem? (List.getElem?_set_self (List.getElem?_eq_some_iff.1 hb).1)) e rfl nn ?_
      rw [← e]
      exact used_set hb rfl rfl
    · have e := ex _ e
      have s0 := (roundI_in n).1
      have q2 : 2 ≤ G / roundI n := (Int.le_ediv_iff_mul_le (by omega)).2 (by omega)
      obtain ⟨k, hk⟩ : ∃ k, (G / roundI n).toNat = k + 1 := ⟨(G / roundI n).toNat - 1, by omega⟩
      have r := base.fresh a1 s0 (by omega : roundI n ≤ G / 2)
      refine fin _ ⟨F + p * G, roundI n, true, false⟩ r (List.mem_append_right _ ?_) e rfl nn ?_
      · rw [newC, List.mem_map]
        exact ⟨0, List.mem_range.2 (by omega), by simp⟩
      · rw [hk, List.filter_append, List.map_append, newC_used, e]
        exact List.perm_append_singleton x _
    · cases e

/-- What is given back is in use no longer. -/
theorem give_used {F G : Int} {ps ps' : List Bool} {pgs pgs' : List Pg} {n : Int} (g0 : 1 ≤ G) (wf : WF G pgs) (h : GiveA F G ps pgs n true pgs' ps') : (usedP F G pgs).Perm (n :: usedP F G pgs') ∧ WF G pgs' := by
  have base : Rel F G (cellsP F G pgs) pgs := ⟨List.Perm.refl _, wf⟩
  rcases h with ⟨_, e, _⟩ | ⟨p, j, s, us, a1, a2, rfl, _, a4⟩ | ⟨p, c, a1, rfl, _, rfl, _⟩
  · cases e
  · have hm : (⟨F + p * G + j * s, s, true, false⟩ : Rc) ∈ cellsP F G pgs := mem_cellsP.2 ⟨p, _, a1, mem_blk.2 ⟨j, true, a2, rfl⟩⟩
    obtain ⟨b, hb, eb⟩ := List.getElem_of_mem hm
    have hb : (cellsP F G pgs)[b]? = some ⟨F + p * G + j * s, s, true, false⟩ := by rw [List.getElem?_eq_getElem hb, eb]
    have hu := used_unset (d := ⟨F + p * G + j * s, s, false, false⟩) hb rfl rfl
    rcases a4 with ⟨a5, rfl, _⟩ | ⟨a5, rfl, _⟩
    · have r := base.lessen a1 a2 hb a5
      exact ⟨hu.trans ((used_perm r.perm).cons _), r.wf⟩
    · have r := base.empty g0 a1 a2 hb
      obtain ⟨k1, _, k3, _⟩ := wf.blk p s us a1
      refine ⟨hu.trans (List.Perm.cons _ ?_), r.wf⟩
      refine List.Perm.trans ?_ (used_perm r.perm)
      rw [List.filter_filter]
      have hd := perm_turn base.perm a1 a2 hb false
      have same : ((cellsP F G pgs).set b ⟨F + p * G + j * s, s, false, false⟩).filter Rc.used = ((cellsP F G pgs).set b ⟨F + p * G + j * s, s, false, false⟩).filter (fun c => c.used && otherB F G p c) := by
        refine List.filter_congr fun c hc => ?_
        cases hcu : c.used
        · rfl
        · have : otherB F G p c = true := by
            -- all that begins in that page is in use no longer
            obtain ⟨A, B, e, ho⟩ := cellsP_split F G pgs p (List.getElem?_eq_some_iff.1 a1).1
            have hc2 := hd.mem_iff.1 hc
            rw [e] at hc2
            have far : c ∈ A ++ B → otherB F G p c = true := fun hab => by
              obtain ⟨i, x, hi, hx, hcx⟩ := ho c hab
              have := (cell_pages g0 wf hx hcx).1
              simp only [otherB, this, Bool.not_eq_true', decide_eq_false_iff_not]
              omega
            rcases List.mem_append.1 hc2 with q | q
            · exact far (List.mem_append_left _ q)
            · rcases List.mem_append.1 q with q | q
              · obtain ⟨j', u', hu', rfl⟩ := mem_blk.1 q
                obtain rfl : u' = true := hcu
                exact absurd (List.mem_of_getElem? hu') a5
              · exact far (List.mem_append_right _ q)
          rw [this]; rfl
      rw [same]
  · have hm : (⟨F + p * G, c * G, true, true⟩ : Rc) ∈ cellsP F G pgs := mem_cellsP.2 ⟨p, _, a1, by simp [Pg.cells]⟩
    obtain ⟨b, hb, eb⟩ := List.getElem_of_mem hm
    have hb : (cellsP F G pgs)[b]? = some ⟨F + p * G, c * G, true, true⟩ := by rw [List.getElem?_eq_getElem hb, eb]
    have hu := used_unset (d := ⟨F + p * G, c * G, false, true⟩) hb rfl rfl
    have r := base.unlarge (u := false) g0 a1 hb
    refine ⟨hu.trans (List.Perm.cons _ ?_), r.wf⟩
    refine List.Perm.trans ?_ (used_perm r.perm)
    rw [List.filter_filter]
    have same : ((cellsP F G pgs).set b ⟨F + p * G, c * G, false, true⟩).filter Rc.used = ((cellsP F G pgs).set b ⟨F + p * G, c * G, false, true⟩).filter (fun c => c.used && otherB F G p c) := by
      refine List.filter_congr fun d hd => ?_
      cases hcu : d.used
      · rfl
      · have : otherB F G p d = true := by
          rcases List.mem_or_eq_of_mem_set hd with q | rfl
          · obtain ⟨i, x, hx, hcx⟩ := mem_cellsP.1 q
            have e1 := (cell_pages g0 wf hx hcx).1
            by_cases ei : i = p
            · subst ei
              rw [a1] at hx
              cases hx
              exfalso
              -- the only cell of that page is the one whose flag was turned
              obtain rfl : d = ⟨F + i * G, c * G, true, true⟩ := by simpa [Pg.cells] using hcx
              obtain ⟨k, hk, ek⟩ := List.getElem_of_mem hd
              rw [List.getElem_set] at ek
              split at ek
              · cases ek
              · rename_i nk
                have rise := cellsP_rise (F := F) g0 wf
                rw [List.pairwise_map, List.pairwise_iff_getElem] at rise
                have hbl := (List.getElem?_eq_some_iff.1 hb).1
                have eb2 : (cellsP F G pgs)[b] = ⟨F + i * G, c * G, true, true⟩ := by rw [List.getElem?_eq_getElem hbl] at hb; simpa using hb
                rw [List.length_set] at hk
                rcases Nat.lt_or_gt_of_ne nk with l | l
                · have := rise b k hbl hk l
                  rw [ek, eb2] at this
                  exact absurd this (by show ¬ F + (i : Int) * G < F + (i : Int) * G; omega)
                · have := rise k b hk hbl l
                  rw [ek, eb2] at this
                  exact absurd this (by show ¬ F + (i : Int) * G < F + (i : Int) * G; omega)
            · simp only [otherB, e1, Bool.not_eq_true', decide_eq_false_iff_not]
              omega
          · cases hcu
        rw [this]; rfl
    rw [same]

/-- Nothing in use: every page is free. -/
theorem used_none {F G : Int} {pgs : List Pg} (wf : WF G pgs) (h : usedP F G pgs = []) : (∀ x ∈ pgs, x = Pg.free) ∧ cellsP F G pgs = [] := by
  have no : ∀ c ∈ cellsP F G pgs, c.used = false := fun c hc => by
    cases e : c.used
    · rfl
    · have : c.pos ∈ usedP F G pgs := List.mem_map.2 ⟨c, List.mem_filter.2 ⟨hc, e⟩, rfl⟩
      rw [h] at this
      simp at this
  have big : ∀ i c : Nat, pgs[i]? ≠ some (.big c) := fun i c hx => by
    have := no ⟨F + i * G, c * G, true, true⟩ (mem_cellsP.2 ⟨i, _, hx, by simp [Pg.cells]⟩)
    cases this
  have all : ∀ x ∈ pgs, x = Pg.free := fun x hx => by
    obtain ⟨i, hi, e⟩ := List.getElem_of_mem hx
    have hx : pgs[i]? = some x := by rw [List.getElem?_eq_getElem hi, e]
    cases x with
    | free => rfl
    | rest => obtain ⟨k, c, _, _, hb⟩ := wf.rest i hx
              exact absurd hb (big k c)
    | big c => exact absurd hx (big i c)
    | blk s us =>
      obtain ⟨_, _, _, ht⟩ := wf.blk i s us hx
      obtain ⟨j, hj, e⟩ := List.getElem_of_mem ht
      have := no ⟨F + i * G + j * s, s, true, false⟩ (mem_cellsP.2 ⟨i, _, hx, mem_blk.2 ⟨j, true, by rw [List.getElem?_eq_getElem hj, e], rfl⟩⟩)
      cases this
  refine ⟨all, ?_⟩
  rw [List.eq_nil_iff_forall_not_mem]
  intro c hc
  obtain ⟨i, x, hx, hcx⟩ := mem_cellsP.1 hc
  rw [all x (List.mem_of_getElem? hx)] at hcx
  simp [Pg.cells] at hcx
end Go.Proofs.YthmhehehomieiaaGreat

/- What Take does to the cells in use. Of numbers and lists alone. -/
namespace Go.Proofs.YthmhehehomieiaaGreat
open Go.RowKit

/-- Cells in use. -/
def UsedC (F G : Int) (pgs : List Pg) (d : Rc) : Prop := d ∈ cellsP F G pgs ∧ d.used = true

theorem used_apart {F G : Int} {pgs : List Pg} (g0 : 1 ≤ G) (wf : WF G pgs) {c d : Rc} (hc : UsedC F G pgs c) (hd : UsedC F G pgs d) (ne : c ≠ d) : c.pos + c.words ≤ d.pos ∨ d.pos + d.words ≤ c.pos := by
  rcases Int.lt_trichotomy c.pos d.pos with l | l | l
  · exact .inl (cells_apart g0 wf hc.1 hd.1 l)
  · exact absurd (pos_unique g0 wf hc.1 hd.1 l) ne
  · exact .inr (cells_apart g0 wf hd.1 hc.1 l)

theorem used_at {F G : Int} {pgs : List Pg} {d : Rc} : UsedC F G pgs d ↔ ∃ (i : Nat) (y : Pg), pgs[i]? = some y ∧ d ∈ y.cells F G i ∧ d.used = true := by
  unfold UsedC
  rw [mem_cellsP]
  constructor
  · rintro ⟨⟨i, y, h1, h2⟩, h3⟩; exact ⟨i, y, h1, h2, h3⟩
  · rintro ⟨i, y, h1, h2, h3⟩; exact ⟨⟨i, y, h1, h2⟩, h3⟩

/-- What is taken is a new cell in use, with room for it; where it begins none began. -/
def TookU (F G n x : Int) (pgs pgs' : List Pg) : Prop :=
  ∃ c, c.pos = x ∧ n ≤ c.words ∧ (F ≤ x ∧ x + c.words ≤ F + pgs.length * G) ∧ UsedC F G pgs' c ∧ (∀ d, UsedC F G pgs' d ↔ d = c ∨ UsedC F G pgs d) ∧ ∀ d, UsedC F G pgs d → d.pos ≠ x

theorem set_get {α : Type} {L : List α} {p : Nat} (hp : p < L.length) (y : α) (i : Nat) : (L.set p y)[i]? = if i = p then some y else L[i]? := by
  rw [List.getElem?_set]
  by_cases e : p = i
  · subst e; simp [hp]
  · rw [if_neg e, if_neg (Ne.symm e)]

theorem took_cell {F G n : Int} {pgs : List Pg} (g0 : 1 ≤ G) (wf : WF G pgs) (n1 : n ≤ 1099511627776) {p j : Nat} {us : List Bool} (hp : pgs[p]? = some (.blk (roundI n) us)) (hj : us[j]? = some false) :
    TookU F G n (F + p * G + j * roundI n) pgs (pgs.set p (.blk (roundI n) (us.set j true))) := by
  have pl := (List.getElem?_eq_some_iff.1 hp).1
  have jl := (List.getElem?_eq_some_iff.1 hj).1
  have hc : UsedC F G (pgs.set p (.blk (roundI n) (us.set j true))) ⟨F + p * G + j * roundI n, roundI n, true, false⟩ :=
    used_at.2 ⟨p, _, by rw [set_get pl, if_pos rfl], mem_blk.2 ⟨j, true, by rw [set_get jl, if_pos rfl], rfl⟩, rfl⟩
  have ho : (⟨F + p * G + j * roundI n, roundI n, false, false⟩ : Rc) ∈ cellsP F G pgs := mem_cellsP.2 ⟨p, _, hp, mem_blk.2 ⟨j, false, hj, rfl⟩⟩
  have sp : F ≤ F + p * G + j * roundI n ∧ F + p * G + j * roundI n + roundI n ≤ F + pgs.length * G := by
    obtain ⟨s0, _, hl, _⟩ := wf.blk p _ us hp
    obtain ⟨p0, p1⟩ := in_page s0 hl jl
    have pi : (0 : Int) ≤ (p : Int) * G := Int.mul_nonneg (by omega) (by omega)
    have z := Int.mul_le_mul_of_nonneg_right (show ((p : Int) + 1) ≤ pgs.length by omega) (show 0 ≤ G by omega)
    rw [Int.add_mul, Int.one_mul] at z
    omega
  refine ⟨_, rfl, roundI_ge n1, sp, hc, fun d => ⟨fun hd => ?_, ?_⟩, fun d hd e => ?_⟩
  · obtain ⟨i, y, h1, h2, h3⟩ := used_at.1 hd
    rw [set_get pl] at h1
    split at h1
    · cases h1
      rename_i e
      subst e
      obtain ⟨k, u, h4, rfl⟩ := mem_blk.1 h2
      rw [set_get jl] at h4
      split at h4
      · rename_i e; subst e; cases h4; exact .inl rfl
      · exact .inr (used_at.2 ⟨i, _, hp, mem_blk.2 ⟨k, u, h4, rfl⟩, h3⟩)
    · exact .inr (used_at.2 ⟨i, y, h1, h2, h3⟩)
  · rintro (rfl | hd)
    · exact hc
    · obtain ⟨i, y, h1, h2, h3⟩ := used_at.1 hd
      by_cases e : i = p
      · subst e
        rw [hp] at h1; cases h1
        obtain ⟨k, u, h4, rfl⟩ := mem_blk.1 h2
        have : k ≠ j := by
          rintro rfl
          rw [hj] at h4; cases h4; cases h3
        exact used_at.2 ⟨i, _, by rw [set_get pl, if_pos rfl], mem_blk.2 ⟨k, u, by rw [set_get jl, if_neg this]; exact h4, rfl⟩, h3⟩
      · exact used_at.2 ⟨i, y, by rw [set_get pl, if_neg e]; exact h1, h2, h3⟩
  · have := pos_unique g0 wf hd.1 ho e
    rw [this] at hd
    cases hd.2

theorem page_free {F G : Int} {pgs : List Pg} (g0 : 1 ≤ G) (wf : WF G pgs) {p : Nat} (hp : pgs[p]? = some .free) {d : Rc} (hd : UsedC F G pgs d) : d.pos ≠ F + p * G := by
  intro e
  obtain ⟨i, y, h1, h2, h3⟩ := used_at.1 hd
  have h4 := (cell_pages g0 wf h1 h2).1
  have h5 := ofI_at (F := F) g0 p 0 (by omega) (by omega)
  rw [Int.add_zero, ← e, h4] at h5
  obtain rfl : i = p := by omega
  rw [hp] at h1; cases h1
  cases h2

theorem took_page {F G n : Int} {pgs : List Pg} (g0 : 1 ≤ G) (wf : WF G pgs) (n1 : n ≤ 1099511627776) {p : Nat} (hp : pgs[p]? = some .free) (hs : ¬ G / 2 < roundI n) :
    TookU F G n (F + p * G) pgs (pgs.set p (.blk (roundI n) (us0 (G / roundI n).toNat))) := by
  have pl := (List.getElem?_eq_some_iff.1 hp).1
  have r4 := (roundI_in n).1
  have k1 : 1 ≤ G / roundI n := by rw [Int.le_ediv_iff_mul_le (by omega)]; omega
  have hu : ∀ (j : Nat) (u : Bool), (us0 (G / roundI n).toNat)[j]? = some u ↔ j < (G / roundI n).toNat ∧ u = decide (j = 0) := fun j u => by
    unfold us0
    rw [List.getElem?_map]
    by_cases e : j < (G / roundI n).toNat
    · rw [List.getElem?_range e]; simp [e, eq_comm]
    · rw [List.getElem?_eq_none (by rw [List.length_range]; omega)]; simp [e]
  have hc : UsedC F G (pgs.set p (.blk (roundI n) (us0 (G / roundI n).toNat))) ⟨F + p * G, roundI n, true, false⟩ :=
    used_at.2 ⟨p, _, by rw [set_get pl, if_pos rfl], mem_blk.2 ⟨0, true, (hu 0 true).2 ⟨by omega, rfl⟩, by simp⟩, rfl⟩
  have sp : F ≤ F + (p : Int) * G ∧ F + p * G + roundI n ≤ F + pgs.length * G := by
    have pi : (0 : Int) ≤ (p : Int) * G := Int.mul_nonneg (by omega) (by omega)
    have z := Int.mul_le_mul_of_nonneg_right (show ((p : Int) + 1) ≤ pgs.length by omega) (show 0 ≤ G by omega)
    rw [Int.add_mul, Int.one_mul] at z
    omega
  refine ⟨_, rfl, roundI_ge n1, sp, hc, fun d => ⟨fun hd => ?_, ?_⟩, fun d hd e => page_free g0 wf hp hd e⟩
  · obtain ⟨i, y, h1, h2, h3⟩ := used_at.1 hd
    rw [set_get pl] at h1
    split at h1
    · cases h1
      rename_i e
      subst e
      obtain ⟨k, u, h4, rfl⟩ := mem_blk.1 h2
      obtain ⟨_, rfl⟩ := (hu k u).1 h4
      have : k = 0 := by simpa using h3
      subst this
      exact .inl (by simp)
    · exact .inr (used_at.2 ⟨i, y, h1, h2, h3⟩)
  · rintro (rfl | hd)
    · exact hc
    · obtain ⟨i, y, h1, h2, h3⟩ := used_at.1 hd
      by_cases e : i = p
      · subst e
        rw [hp] at h1; cases h1
        cases h2
      · exact used_at.2 ⟨i, y, by rw [set_get pl, if_neg e]; exact h1, h2, h3⟩

theorem took_pages {F G n : Int} {pgs : List Pg} (g0 : 1 ≤ G) (wf : WF G pgs) (n0 : 1 ≤ n) {p C : Nat} (hC : (C : Int) = pagesI G n) (h1 : p + C ≤ pgs.length) (hr : Run pgs p C) : TookU F G n (F + p * G) pgs (bigAt pgs p C) := by
  obtain ⟨a1, _, a3, _⟩ := pagesI_enough g0 n0
  have c1 : 1 ≤ C := by omega
  have at_ : ∀ (i : Nat) (y : Pg), (bigAt pgs p C)[i]? = some y → (i = p ∧ y = .big C) ∨ y = .rest ∨ (¬ (p ≤ i ∧ i < p + C) ∧ pgs[i]? = some y) := fun i y e => by
    have il : i < pgs.length := by
      have := (List.getElem?_eq_some_iff.1 e).1
      unfold bigAt at this
      rw [List.length_set, fill_length] at this
      exact this
    rw [bigAt_at pgs p C i il] at e
    split at e
    · cases e; exact .inl ⟨‹_›, rfl⟩
    · split at e
      · cases e; exact .inr (.inl rfl)
      · exact .inr (.inr ⟨‹_›, e⟩)
  have hc : UsedC F G (bigAt pgs p C) ⟨F + p * G, C * G, true, true⟩ :=
    used_at.2 ⟨p, .big C, by rw [bigAt_at pgs p C p (by omega), if_pos rfl], by simp [Pg.cells], rfl⟩
  have sp : F ≤ F + (p : Int) * G ∧ F + p * G + C * G ≤ F + pgs.length * G := by
    have pi : (0 : Int) ≤ (p : Int) * G := Int.mul_nonneg (by omega) (by omega)
    have z := Int.mul_le_mul_of_nonneg_right (show ((p : Int) + C) ≤ pgs.length by omega) (show 0 ≤ G by omega)
    rw [Int.add_mul] at z
    omega
  refine ⟨_, rfl, by show n ≤ (C : Int) * G; rw [hC]; exact a3, sp, hc, fun d => ⟨fun hd => ?_, ?_⟩, fun d hd e => page_free g0 wf (hr p (Nat.le_refl _) (by omega)) hd e⟩
  · obtain ⟨i, y, e1, h2, h3⟩ := used_at.1 hd
    rcases at_ i y e1 with ⟨rfl, rfl⟩ | rfl | ⟨_, e⟩
    · exact .inl (by simpa [Pg.cells] using h2)
    · cases h2
    · exact .inr (used_at.2 ⟨i, y, e, h2, h3⟩)
  · rintro (rfl | hd)
    · exact hc
    · obtain ⟨i, y, e1, h2, h3⟩ := used_at.1 hd
      have il := (List.getElem?_eq_some_iff.1 e1).1
      have out : ¬ (p ≤ i ∧ i < p + C) := fun z => by
        have := hr i z.1 z.2
        rw [this] at e1; cases e1; cases h2
      exact used_at.2 ⟨i, y, by rw [bigAt_at pgs p C i il, if_neg (by omega), if_neg out]; exact e1, h2, h3⟩

theorem took_used {F G n x : Int} {ps : List Bool} {pgs pgs' : List Pg} (g0 : 1 ≤ G) (wf : WF G pgs) (n1 : n ≤ 1099511627776) (ht : TakeA F G ps pgs n (yesV x) pgs') : TookU F G n x pgs pgs' := by
  have inj : ∀ {a b : Int}, yesV a = yesV b → a = b := fun e => by unfold yesV at e; simpa using e
  have no : ∀ {a : Int}, yesV a ≠ noT := fun e => by unfold yesV noT at e; simp at e
  rcases ht with ⟨_, e, _⟩ | ⟨h0, hl, h | h⟩ | ⟨h0, hs, h | ⟨_, h | h⟩⟩
  · exact absurd e no
  · obtain ⟨p, h1, h2, _, e, rfl⟩ := h
    obtain rfl := inj e
    have := (pagesI_enough g0 (show 1 ≤ n by omega)).1
    exact took_pages g0 wf (by omega) (by omega) h1 h2
  · exact absurd h.2.1 no
  · obtain ⟨p, j, us, h1, _, h3, _, _, e, rfl⟩ := h
    obtain rfl := inj e
    exact took_cell g0 wf n1 h1 h3
  · obtain ⟨p, h1, _, e, rfl⟩ := h
    obtain rfl := inj e
    exact took_page g0 wf n1 h1 hs
  · exact absurd h.2.1 no
end Go.Proofs.YthmhehehomieiaaGreat

/- Two halves in memory; contracts of the program's nearest, New, filled, other, has. -/
namespace Go.Proofs.YthmhehehomieiaaGreat
open Go.RowKit

/-- The cells of two halves of W words from F on: n says which is filled, u is used of that one, v of the other one. -/
def bpL (W F : Int) (n : Bool) (u v : Int) : Array Value :=
  match n with
  | false => #[.int .i64 W, .int .i64 F, .int .i64 u, .int .i64 (F + W), .int .i64 v, .int .i64 0]
  | true => #[.int .i64 W, .int .i64 F, .int .i64 v, .int .i64 (F + W), .int .i64 u, .int .i64 1]

structure IsBp (w : World) (b : Nat) (W F : Int) (n : Bool) (u v : Int) : Prop where
  blk : Blk w b (bpL W F n u v) 157
  w0 : 0 ≤ W
  w1 : W ≤ 1048576
  f0 : 0 ≤ F
  f1 : F ≤ 1048576
  u0 : 0 ≤ u
  u1 : u ≤ W
  v0 : 0 ≤ v
  v1 : v ≤ W

abbrev bpP (b : Nat) : Value := .pointer (some ⟨b, 0, none⟩)

/-- Where a half begins. -/
def hAt (W F : Int) (n : Bool) : Int := if n then F + W else F

section
variable {w w' : World} {b : Nat} {W F u v : Int} {n : Bool}
theorem IsBp.lt (h : IsBp w b W F n u v) : b < w.heap.size := h.blk.lt
theorem IsBp.keep (h : IsBp w b W F n u v) (f : Below w.heap.size w w') : IsBp w' b W F n u v := { h with blk := h.blk.keep f }
theorem IsBp.frm {S : Nat → Prop} (h : IsBp w b W F n u v) (f : Frm S w w') (hb : ¬ S b) : IsBp w' b W F n u v := { h with blk := h.blk.frm f hb }
theorem IsBp.alloc (h : IsBp w b W F n u v) (o : Obj) : IsBp (w.alloc o) b W F n u v := { h with blk := h.blk.alloc o }
theorem Blk.six {t : TypeId} {v0 v1 v2 v3 v4 v5 : Value} (h : Blk w b #[v0, v1, v2, v3, v4, v5] t) :
    w.cell? ⟨b, 0, none⟩ = some v0 ∧ w.cell? ⟨b, 1, none⟩ = some v1 ∧ w.cell? ⟨b, 2, none⟩ = some v2 ∧ w.cell? ⟨b, 3, none⟩ = some v3 ∧ w.cell? ⟨b, 4, none⟩ = some v4 ∧ w.cell? ⟨b, 5, none⟩ = some v5 ∧
    (∀ i, w.frozen? ⟨b, i, none⟩ = false) := ⟨h.cell 0, h.cell 1, h.cell 2, h.cell 3, h.cell 4, h.cell 5, h.frozen⟩
end

set_option maxHeartbeats 1000000 in
theorem bnearest_any (n : Int) (w : World) :
    Calls Tryz.prog 107 #[.int .i64 n] w fun e w' => e = .returned (.int .i64 (cutI n 0 1048576)) ∧ w = w' := by
  by_cases h0 : n < 0
  · have E := Lib.hid (show cutI n 0 1048576 = 0 from if_pos h0)
    go_enter Tryz.func107, Tryz.ntmps107
    go_wp2
    go_ret
    refine ⟨?_, rfl⟩
    rw [E.out]
    congr 2
    repeat' split
    all_goals omega
  · by_cases h1 : 1048576 < n
    · have E := Lib.hid (show cutI n 0 1048576 = 1048576 from by rw [cutI, if_neg h0, if_pos h1])
      go_enter Tryz.func107, Tryz.ntmps107
      go_wp2
      go_ret
      refine ⟨?_, rfl⟩
      rw [E.out]
      congr 2
      repeat' split
      all_goals omega
    · have E := Lib.hid (show cutI n 0 1048576 = n from by rw [cutI, if_neg h0, if_neg h1])
      go_enter Tryz.func107, Tryz.ntmps107
      go_wp2
      go_ret
      refine ⟨?_, rfl⟩
      rw [E.out]
      congr 2
      repeat' split
      all_goals omega

set_option maxHeartbeats 1000000 in
theorem bNew_any (f n : Int) (w : World) :
    Calls Tryz.prog 62 #[.int .i64 f, .int .i64 n] w fun e w' => e = .returned (bpP w.heap.size) ∧ IsBp w' w.heap.size (cutI n 0 1048576) (cutI f 0 1048576) false 0 0 ∧ Below w.heap.size w w' := by
  have hF := bnearest_any f w
  have hN := bnearest_any n w
  have iF := cutI_in (n := f) (l := 0) (m := 1048576) (by omega)
  have iN := cutI_in (n := n) (l := 0) (m := 1048576) (by omega)
  obtain ⟨F, eF⟩ : ∃ F, cutI f 0 1048576 = F := ⟨_, rfl⟩
  obtain ⟨W, eW⟩ : ∃ W, cutI n 0 1048576 = W := ⟨_, rfl⟩
  rw [eF] at hF iF ⊢
  rw [eW] at hN iN ⊢
  have HF := Lib.hid hF
  have HN := Lib.hid hN
  obtain ⟨f0, f1⟩ := iF
  obtain ⟨n0, n1⟩ := iN
  clear hF hN eF eW
  go_enter Tryz.func62, Tryz.ntmps62
  go_wp2_with fail
  refine HF.out.mono ?_
  rintro e w1 ⟨rfl, rfl⟩
  go_wp2_with fail
  refine HN.out.mono ?_
  rintro e w1 ⟨rfl, rfl⟩
  go_wp2
  go_ret
  exact ⟨rfl, ⟨Blk.new w _ _, n0, n1, f0, f1, Int.le_refl _, n0, Int.le_refl _, n0⟩, (Below.refl _ _).alloc (Nat.le_refl _) _⟩

set_option maxHeartbeats 1000000 in
theorem filled_nil (w : World) :
    Calls Tryz.prog 111 #[.pointer none] w fun e w' => e = .returned (.agg #[.int .i64 0, .int .i64 0]) ∧ Below w.heap.size w w' := by
  go_enter Tryz.func111, Tryz.ntmps111
  go_wp2
  exact bodyPost_ret (v := Value.agg #[.int .i64 0, .int .i64 0]) (by simp [results, Tryz.results111, go_sem]) rfl ⟨rfl, (Below.refl _ _).alloc (Nat.le_refl _) _⟩

set_option maxHeartbeats 1000000 in
theorem other_nil (w : World) :
    Calls Tryz.prog 99 #[.pointer none] w fun e w' => e = .returned (.agg #[.int .i64 0, .int .i64 0]) ∧ Below w.heap.size w w' := by
  go_enter Tryz.func99, Tryz.ntmps99
  go_wp2
  exact bodyPost_ret (v := Value.agg #[.int .i64 0, .int .i64 0]) (by simp [results, Tryz.results99, go_sem]) rfl ⟨rfl, (Below.refl _ _).alloc (Nat.le_refl _) _⟩

set_option maxHeartbeats 1000000 in
theorem filled_any (b : Nat) (W F : Int) (n : Bool) (u v : Int) (w : World) (h : IsBp w b W F n u v) :
    Calls Tryz.prog 111 #[bpP b] w fun e w' => e = .returned (.agg #[.int .i64 (hAt W F n), .int .i64 u]) ∧ Below w.heap.size w w' := by
  have hl := h.lt
  have hb := h.blk
  clear h
  cases n
  · obtain ⟨c0, c1, c2, c3, c4, c5, cf⟩ := hb.six
    clear hb c0
    go_enter Tryz.func111, Tryz.ntmps111
    go_wp2_with fail
    go_region
    go_wp2
    exact bodyPost_ret (v := Value.agg #[.int .i64 F, .int .i64 u]) (by simp [results, Tryz.results111, go_sem]) rfl ⟨rfl, ((Below.refl _ w).alloc (Nat.le_refl _) _).drew⟩
  · obtain ⟨c0, c1, c2, c3, c4, c5, cf⟩ := hb.six
    clear hb c0
    go_enter Tryz.func111, Tryz.ntmps111
    go_wp2_with fail
    go_region
    go_wp2
    exact bodyPost_ret (v := Value.agg #[.int .i64 (F + W), .int .i64 u]) (by simp [results, Tryz.results111, go_sem]) rfl ⟨rfl, ((Below.refl _ w).alloc (Nat.le_refl _) _).drew⟩

set_option maxHeartbeats 1000000 in
theorem other_any (b : Nat) (W F : Int) (n : Bool) (u v : Int) (w : World) (h : IsBp w b W F n u v) :
    Calls Tryz.prog 99 #[bpP b] w fun e w' => e = .returned (.agg #[.int .i64 (hAt W F (!n)), .int .i64 v]) ∧ Below w.heap.size w w' := by
  have hl := h.lt
  have hb := h.blk
  clear h
  cases n
  · obtain ⟨c0, c1, c2, c3, c4, c5, cf⟩ := hb.six
    clear hb c0
    go_enter Tryz.func99, Tryz.ntmps99
    go_wp2_with fail
    go_region
    go_wp2
    exact bodyPost_ret (v := Value.agg #[.int .i64 (F + W), .int .i64 v]) (by simp [results, Tryz.results99, go_sem]) rfl ⟨rfl, ((Below.refl _ w).alloc (Nat.le_refl _) _).drew⟩
  · obtain ⟨c0, c1, c2, c3, c4, c5, cf⟩ := hb.six
    clear hb c0
    go_enter Tryz.func99, Tryz.ntmps99
    go_wp2_with fail
    go_region
    go_wp2
    exact bodyPost_ret (v := Value.agg #[.int .i64 F, .int .i64 v]) (by simp [results, Tryz.results99, go_sem]) rfl ⟨rfl, ((Below.refl _ w).alloc (Nat.le_refl _) _).drew⟩

/-- Is a place among the first u from a on? -/
def inH (a u x : Int) : Bool := decide (a ≤ x) && decide (x < a + u)

set_option maxHeartbeats 1000000 in
theorem bHas_any (a u x : Int) (w : World) (a0 : 0 ≤ a) (a1 : a ≤ 2097152) (u0 : 0 ≤ u) (u1 : u ≤ 1048576) :
    Calls Tryz.prog 106 #[.agg #[.int .i64 a, .int .i64 u], .int .i64 x] w fun e w' => e = .returned (.bool (inH a u x)) ∧ Below w.heap.size w w' := by
  by_cases h : a ≤ x
  · have E := Lib.hid (show inH a u x = decide (x < a + u) from by rw [inH, decide_eq_true h, Bool.true_and])
    go_enter Tryz.func106, Tryz.ntmps106
    go_wp2
    go_ret
    exact ⟨by rw [E.out]; rfl, (Below.refl _ _).alloc (Nat.le_refl _) _⟩
  · have E := Lib.hid (show inH a u x = false from by rw [inH, decide_eq_false h, Bool.false_and])
    go_enter Tryz.func106, Tryz.ntmps106
    go_wp2
    go_ret
    exact ⟨by rw [E.out]; rfl, (Below.refl _ _).alloc (Nat.le_refl _) _⟩

theorem hAt_in {W F : Int} (n : Bool) (w0 : 0 ≤ W) (w1 : W ≤ 1048576) (f0 : 0 ≤ F) (f1 : F ≤ 1048576) : 0 ≤ hAt W F n ∧ hAt W F n ≤ 2097152 := by
  unfold hAt; cases n <;> simp <;> omega
end Go.Proofs.YthmhehehomieiaaGreat

/- How a heap's objects lie in its arena: in the halves one behind the other, among what is old in cells. Of lists and pages alone. -/
namespace Go.Proofs.YthmhehehomieiaaGreat
namespace Gc
open Go.RowKit

def Hp.szf (A : Hp) (p : Int) : Nat := match A.ob p with | some o => o.sz | none => 0
def Hp.sum (A : Hp) (L : List Int) : Nat := (L.map A.szf).sum

theorem Hp.szf_of {A : Hp} {p : Int} {o : Ob} (h : A.ob p = some o) : A.szf p = o.sz := by unfold Hp.szf; rw [h]
theorem Hp.sum_nil {A : Hp} : A.sum [] = 0 := rfl
theorem Hp.sum_app {A : Hp} {L M : List Int} : A.sum (L ++ M) = A.sum L + A.sum M := by unfold Hp.sum; rw [List.map_append, List.sum_append]
theorem Hp.sum_cons {A : Hp} {p : Int} {L : List Int} : A.sum (p :: L) = A.szf p + A.sum L := by unfold Hp.sum; simp
theorem Hp.sum_one {A : Hp} {p : Int} : A.sum [p] = A.szf p := by rw [Hp.sum_cons, Hp.sum_nil]; rfl
theorem Hp.sum_same {A B : Hp} {L : List Int} (h : ∀ p ∈ L, B.szf p = A.szf p) : B.sum L = A.sum L := by unfold Hp.sum; rw [List.map_congr_left h]

/-- Objects that stand one behind the other from a on. -/
structure Row (A : Hp) (a : Int) (L : List Int) (u : Int) : Prop where
  at_ : ∀ (i : Nat) (p : Int), L[i]? = some p → p = a + A.sum (L.take i)
  use : u = A.sum L

theorem Row.span {A : Hp} {a u : Int} {L : List Int} (h : Row A a L u) {p : Int} {o : Ob} (hp : p ∈ L) (ho : A.ob p = some o) : a ≤ p ∧ p + o.sz ≤ a + u := by
  obtain ⟨i, hi, e⟩ := List.getElem_of_mem hp
  have e : L[i]? = some p := by rw [List.getElem?_eq_getElem hi, e]
  have := h.at_ i p e
  have t : L = L.take i ++ p :: L.drop (i + 1) := by
    have := (List.take_append_drop i L).symm
    rw [List.drop_eq_getElem_cons hi] at this
    rwa [show L[i] = p from (List.getElem?_eq_some_iff.1 e).2] at this
  have s : A.sum L = A.sum (L.take i) + (A.szf p + A.sum (L.drop (i + 1))) := by
    conv => lhs; rw [t]
    rw [Hp.sum_app, Hp.sum_cons]
  rw [Hp.szf_of ho] at s
  have := h.use
  omega

theorem Row.same {A B : Hp} {a u : Int} {L : List Int} (h : Row A a L u) (e : ∀ p ∈ L, B.szf p = A.szf p) : Row B a L u :=
  ⟨fun i p hp => by rw [Hp.sum_same fun q hq => e q (List.mem_of_mem_take hq)]; exact h.at_ i p hp, by rw [Hp.sum_same e]; exact h.use⟩

theorem Row.snoc {A : Hp} {a u q : Int} {L : List Int} (h : Row A a L u) (hq : q = a + u) : Row A a (L ++ [q]) (u + A.szf q) := by
  refine ⟨fun i p hp => ?_, by rw [Hp.sum_app, Hp.sum_one, h.use]; omega⟩
  by_cases hi : i < L.length
  · rw [List.getElem?_append_left hi] at hp
    rw [List.take_append_of_le_length (by omega)]
    exact h.at_ i p hp
  · have : i = L.length := by
      have := (List.getElem?_eq_some_iff.1 hp).1
      rw [List.length_append, List.length_singleton] at this
      omega
    subst this
    rw [List.getElem?_append_right (Nat.le_refl _), Nat.sub_self] at hp
    cases hp
    rw [List.take_left', hq, h.use]
    rfl

theorem Row.nil {A : Hp} {a : Int} : Row A a [] 0 := ⟨fun i p hp => by simp at hp, rfl⟩

/-- What stands in the half that is emptied, and has not left it. -/
def Hp.un (A : Hp) : List Int := A.E.filter fun p => decide (A.now p = p)
def Hp.rest (A : Hp) : Nat := A.sum A.un

structure Laid (nu : Int) (yn : Bool) (yu yv G : Int) (pgs : List Pg) (ws : List Int) (A : Hp) : Prop where
  lies : Lies ws A
  g0 : 1 ≤ G
  wf : WF G pgs
  n0 : 0 ≤ nu
  n1 : nu ≤ 1048576
  len : 1 + 2 * nu + pgs.length * G ≤ ws.length
  hf : Row A (hAt nu 1 yn) A.F yu
  he : Row A (hAt nu 1 (!yn)) A.E yv
  le : yv ≤ nu
  room : yu + A.rest ≤ nu
  old : ∀ p, p ∈ A.O ↔ ∃ c, UsedC (1 + 2 * nu) G pgs c ∧ c.pos = p
  fit : ∀ c, UsedC (1 + 2 * nu) G pgs c → ∀ o, A.ob c.pos = some o → (o.sz : Int) ≤ c.words

section
variable {nu yu yv G : Int} {yn : Bool} {pgs : List Pg} {ws : List Int} {A : Hp} {x : Int}

theorem used_span {F : Int} (g0 : 1 ≤ G) (wf : WF G pgs) {c : Rc} (hc : UsedC F G pgs c) : F ≤ c.pos ∧ c.pos + c.words ≤ F + pgs.length * G := by
  obtain ⟨i, y, h1, h2, _⟩ := used_at.1 hc
  have il := (List.getElem?_eq_some_iff.1 h1).1
  have pi : (0 : Int) ≤ (i : Int) * G := Int.mul_nonneg (by omega) (by omega)
  cases y with
  | free => cases h2
  | rest => cases h2
  | big k =>
    obtain rfl : c = ⟨F + i * G, k * G, true, true⟩ := by simpa [Pg.cells] using h2
    have := (wf.big i k h1).2.1
    have z := Int.mul_le_mul_of_nonneg_right (show ((i : Int) + k) ≤ pgs.length by omega) (show 0 ≤ G by omega)
    rw [Int.add_mul] at z
    exact ⟨by show F ≤ F + i * G; omega, by show F + (i : Int) * G + k * G ≤ _; omega⟩
  | blk s us =>
    obtain ⟨j, u, hu, rfl⟩ := mem_blk.1 h2
    obtain ⟨s0, _, hl, _⟩ := wf.blk i s us h1
    obtain ⟨p0, p1⟩ := in_page s0 hl (List.getElem?_eq_some_iff.1 hu).1
    have z := Int.mul_le_mul_of_nonneg_right (show ((i : Int) + 1) ≤ pgs.length by omega) (show 0 ≤ G by omega)
    rw [Int.add_mul, Int.one_mul] at z
    exact ⟨by show F ≤ F + i * G + j * s; omega, by show F + (i : Int) * G + j * s + s ≤ _; omega⟩

theorem Laid.used (h : Laid nu yn yu yv G pgs ws A) : 0 ≤ yu ∧ yu ≤ nu ∧ 0 ≤ yv := by
  have := h.hf.use
  have := h.he.use
  have := h.room
  omega

theorem hAt_two (nu : Int) (yn : Bool) : (hAt nu 1 yn = 1 ∧ hAt nu 1 (!yn) = 1 + nu) ∨ (hAt nu 1 yn = 1 + nu ∧ hAt nu 1 (!yn) = 1) := by
  cases yn
  · exact .inl ⟨rfl, rfl⟩
  · exact .inr ⟨rfl, rfl⟩

/-- Where an object lies. -/
theorem Laid.where_ (h : Laid nu yn yu yv G pgs ws A) (i : Inv x A) {p : Int} {o : Ob} (ho : A.ob p = some o) :
    (p ∈ A.F ∧ hAt nu 1 yn ≤ p ∧ p + o.sz ≤ hAt nu 1 yn + yu) ∨ (p ∈ A.E ∧ hAt nu 1 (!yn) ≤ p ∧ p + o.sz ≤ hAt nu 1 (!yn) + yv) ∨ (p ∈ A.O ∧ 1 + 2 * nu ≤ p ∧ p + o.sz ≤ 1 + 2 * nu + pgs.length * G) := by
  rcases (i.dom p).1 ⟨o, ho⟩ with e | e | e
  · exact .inl ⟨e, h.hf.span e ho⟩
  · exact .inr (.inl ⟨e, h.he.span e ho⟩)
  · obtain ⟨c, hc, rfl⟩ := (h.old p).1 e
    have := used_span h.g0 h.wf hc
    have := h.fit c hc o ho
    exact .inr (.inr ⟨e, by omega, by omega⟩)

/-- Behind what is used of the half that is filled nothing stands. -/
theorem Laid.next (h : Laid nu yn yu yv G pgs ws A) (i : Inv x A) {n : Nat} (n2 : 2 ≤ n) (hn : yu + n ≤ nu) :
    A.ob (hAt nu 1 yn + yu) = none ∧ 0 < hAt nu 1 yn + yu ∧ hAt nu 1 yn + yu ∉ A.O ∧ (hAt nu 1 yn + yu).toNat + n ≤ ws.length ∧ ∀ u v, A.ob u = some v → u.toNat + v.sz ≤ (hAt nu 1 yn + yu).toNat ∨ (hAt nu 1 yn + yu).toNat + n ≤ u.toNat := by
  have h2 := hAt_two nu yn
  have hu := h.used
  have hv := h.le
  have hl := h.len
  have hn0 := h.n0
  have p0 : (0 : Int) ≤ pgs.length * G := Int.mul_nonneg (by omega) (by have := h.g0; omega)
  have far : ∀ u v, A.ob u = some v → u.toNat + v.sz ≤ (hAt nu 1 yn + yu).toNat ∨ (hAt nu 1 yn + yu).toNat + n ≤ u.toNat := fun u v e => by
    rcases h.where_ i e with ⟨_, _, _⟩ | ⟨_, _, _⟩ | ⟨_, _, _⟩ <;> omega
  refine ⟨?_, by omega, ?_, by omega, far⟩
  · cases e : A.ob (hAt nu 1 yn + yu) with
    | none => rfl
    | some v =>
      have s2 : 2 ≤ v.sz := by unfold Ob.sz; omega
      have := far _ v e
      omega
  · intro e
    obtain ⟨c, hc, e⟩ := (h.old _).1 e
    have := used_span h.g0 h.wf hc
    omega
end
end Gc
end Go.Proofs.YthmhehehomieiaaGreat

/- How a heap lies behind what happens to it. Of lists and pages alone. -/
namespace Go.Proofs.YthmhehehomieiaaGreat
namespace Gc
open Go.RowKit

section
variable {nu yu yv G : Int} {yn : Bool} {pgs pgs' : List Pg} {ws vs : List Int} {A : Hp} {x : Int}

theorem fresh {q : Int} (i : Inv x A) (hq : A.ob q = none) : q ∉ A.F ∧ q ∉ A.E ∧ q ∉ A.O := by
  refine ⟨fun e => ?_, fun e => ?_, fun e => ?_⟩
  · obtain ⟨_, e⟩ := (i.dom q).2 (.inl e); rw [hq] at e; cases e
  · obtain ⟨_, e⟩ := (i.dom q).2 (.inr (.inl e)); rw [hq] at e; cases e
  · obtain ⟨_, e⟩ := (i.dom q).2 (.inr (.inr e)); rw [hq] at e; cases e

theorem left_szf {p q : Int} {o o' : Ob} {old : Bool} (ho : A.ob p = some o) (hq : A.ob q = none) (y : Int) : (A.left p q o o' old).szf y = if y = q then o.sz else A.szf y := by
  have mob : (A.left p q o o' old).ob y = upd (upd A.ob p { o with way := q }) q { o' with way := q, noted := false, rs := o.rs, ss := o.ss } y := rfl
  unfold Hp.szf
  rw [mob]
  by_cases e : y = q
  · subst e; rw [upd_self, if_pos rfl]; rfl
  · rw [upd_ne e, if_neg e]
    by_cases e2 : y = p
    · subst e2; rw [upd_self, ho]; rfl
    · rw [upd_ne e2]

theorem left_now (h : Inv x A) {p q : Int} {o o' : Ob} {old : Bool} (hp : p ∈ A.E) (ho : A.ob p = some o) (hw : o.way = p) (hq : A.ob q = none) {y : Int} (hy : A.ok y) (q0 : 0 < q) :
    (A.left p q o o' old).now y = if A.now y = p then q else A.now y := by
  have nq : ∀ y, A.ok y → y ≠ q := fun y hy e => by
    subst e
    obtain ⟨_, e⟩ := h.ok_ob hy (by omega)
    rw [hq] at e; cases e
  have pq : p ≠ q := nq p (h.ob_ok ho)
  have mob : ∀ y, (A.left p q o o' old).ob y = upd (upd A.ob p { o with way := q }) q { o' with way := q, noted := false, rs := o.rs, ss := o.ss } y := fun _ => rfl
  by_cases e : y ∈ A.E
  · obtain ⟨v, hv⟩ := h.ok_ob hy (by have := h.pos y (.inr (.inl e)); omega)
    rw [Hp.now_yes e hv]
    by_cases e2 : y = p
    · subst e2
      rw [ho] at hv; cases hv
      rw [Hp.now_yes (o := { o with way := q }) (by exact e) (by rw [mob, upd_ne pq, upd_self]), if_pos hw]
    · rw [Hp.now_yes (o := v) (by exact e) (by rw [mob, upd_ne (nq y hy), upd_ne e2]; exact hv)]
      rw [if_neg]
      intro z
      rcases h.way y v e hv with a | a | a
      · exact e2 (a.symm.trans z)
      · exact h.fe _ (z ▸ a) hp
      · exact h.eo p hp (z ▸ a)
  · rw [Hp.now_no e, Hp.now_no (by exact e), if_neg fun z : y = p => e (z ▸ hp)]

theorem sum_erase {p : Int} : ∀ {L : List Int}, L.Nodup → p ∈ L → A.sum (L.filter fun y => decide (y ≠ p)) + A.szf p = A.sum L
  | [], _, hp => by cases hp
  | a :: L, hn, hp => by
    rw [List.nodup_cons] at hn
    by_cases e : a = p
    · subst e
      have : (a :: L).filter (fun y => decide (y ≠ a)) = L := by
        rw [List.filter_cons_of_neg (by simp)]
        exact List.filter_eq_self.2 fun y hy => decide_eq_true fun z => hn.1 (z ▸ hy)
      rw [this, Hp.sum_cons]; omega
    · have hp' : p ∈ L := by
        rcases List.mem_cons.1 hp with z | z
        · exact absurd z.symm e
        · exact z
      rw [List.filter_cons_of_pos (by simpa using e), Hp.sum_cons, Hp.sum_cons]
      have := sum_erase hn.2 hp'
      omega

/-- What has not left yet. -/
theorem left_rest (h : Inv x A) {p q : Int} {o o' : Ob} {old : Bool} (hp : p ∈ A.E) (ho : A.ob p = some o) (hw : o.way = p) (hq : A.ob q = none) (q0 : 0 < q) : (A.left p q o o' old).rest + o.sz = A.rest := by
  have hpn : A.now p = p := by rw [Hp.now_yes hp ho, hw]
  have pq : p ≠ q := fun e => by rw [e, hq] at ho; cases ho
  have eu : (A.left p q o o' old).un = A.un.filter fun y => decide (y ≠ p) := by
    unfold Hp.un
    rw [List.filter_filter]
    refine List.filter_congr fun y hy => ?_
    have yq : y ≠ q := fun e => (fresh h hq).2.1 (e ▸ hy)
    rw [left_now h hp ho hw hq (.inr (.inr (.inl hy))) q0]
    rw [Bool.eq_iff_iff, Bool.and_eq_true, decide_eq_true_eq, decide_eq_true_eq, decide_eq_true_eq]
    by_cases e : A.now y = p
    · rw [if_pos e]
      exact ⟨fun z => absurd z.symm yq, fun z => absurd (z.2.symm.trans e) z.1⟩
    · rw [if_neg e]
      exact ⟨fun z => ⟨fun w => e (by rw [w]; exact hpn), z⟩, fun z => z.2⟩
  have pu : p ∈ A.un := List.mem_filter.2 ⟨hp, decide_eq_true hpn⟩
  have nu : A.un.Nodup := h.ne.sublist List.filter_sublist
  unfold Hp.rest
  rw [eu, ← sum_erase nu pu, Hp.szf_of ho]
  congr 1
  refine Hp.sum_same fun y hy => ?_
  have hy : y ∈ A.E := (List.mem_filter.1 (List.mem_filter.1 hy).1).1
  rw [left_szf ho hq, if_neg (by rintro rfl; exact (fresh h hq).2.1 hy)]

theorem Laid.pgs0 (h : Laid nu yn yu yv G pgs ws A) : (0 : Int) ≤ pgs.length * G := Int.mul_nonneg (by omega) (by have := h.g0; omega)

/-- An object has left for the other half. -/
theorem Laid.leftY (h : Laid nu yn yu yv G pgs ws A) (i : Inv x A) {p : Int} {o o' : Ob} (hp : p ∈ A.E) (ho : A.ob p = some o) (hw : o.way = p) (g0 : 0 ≤ o'.age) (g1 : o'.age ≤ 7) (y0 : 0 ≤ o'.par) (y1 : o'.par ≤ 1) :
    yu + o.sz ≤ nu ∧ A.ob (hAt nu 1 yn + yu) = none ∧ 0 < hAt nu 1 yn + yu ∧
    Laid nu yn (yu + o.sz) yv G pgs (movedW ws p (hAt nu 1 yn + yu) (o.n : Nat) (wordI (o.n : Nat) o.rs.length o'.age o'.par o'.grey false false)) (A.left p (hAt nu 1 yn + yu) o o' false) := by
  have s2 : 2 ≤ o.sz := by unfold Ob.sz; omega
  have hr : o.sz ≤ A.rest := by
    have hpn : A.now p = p := by rw [Hp.now_yes hp ho, hw]
    have pu : p ∈ A.un := List.mem_filter.2 ⟨hp, decide_eq_true hpn⟩
    have := sum_erase (A := A) (i.ne.sublist (l₁ := A.un) List.filter_sublist) pu
    rw [Hp.szf_of ho] at this
    show o.sz ≤ A.sum A.un
    omega
  have hn : yu + o.sz ≤ nu := by have := h.room; omega
  obtain ⟨hq, q0, hqO, fit, far⟩ := h.next i s2 hn
  have fr := fresh i hq
  have rest := left_rest i (o' := o') (old := false) hp ho hw hq q0
  have em : (A.left p (hAt nu 1 yn + yu) o o' false).E = A.E := rfl
  have ef : (A.left p (hAt nu 1 yn + yu) o o' false).F = A.F ++ [hAt nu 1 yn + yu] := rfl
  have lies := h.lies.left (o' := o') (old := false) ho (fun e => i.eo p hp e) hq hqO q0 fit far g0 g1 y0 y1
  have len := (moved_get (x := wordI (o.n : Nat) o.rs.length o'.age o'.par o'.grey false false) (h.lies.pos p o ho) q0 (h.lies.at_ p o ho).fit fit).1
  refine ⟨hn, hq, q0, ?_⟩
  exact
    { lies := lies, g0 := h.g0, wf := h.wf, n0 := h.n0, n1 := h.n1, le := h.le
      len := by rw [len]; exact h.len
      hf := by
        rw [ef]
        have k : Row (A.left p (hAt nu 1 yn + yu) o o' false) (hAt nu 1 yn) A.F yu := h.hf.same fun y hy => by rw [left_szf ho hq, if_neg (by rintro rfl; exact fr.1 hy)]
        have := k.snoc rfl
        rwa [left_szf ho hq, if_pos rfl] at this
      he := by
        rw [em]
        exact h.he.same fun y hy => by rw [left_szf ho hq, if_neg (by rintro rfl; exact fr.2.1 hy)]
      room := by have := h.room; omega
      old := h.old
      fit := fun c hc v hv => by
        have e := left_szf (o' := o') (old := false) ho hq c.pos
        rw [Hp.szf_of hv] at e
        have nq : c.pos ≠ hAt nu 1 yn + yu := fun z => hqO ((h.old _).2 ⟨c, hc, z⟩)
        rw [if_neg nq] at e
        obtain ⟨v', hv'⟩ := (i.dom c.pos).2 (.inr (.inr ((h.old _).2 ⟨c, hc, rfl⟩)))
        rw [Hp.szf_of hv'] at e
        rw [e]
        exact h.fit c hc v' hv' }

/-- An object has become old. -/
theorem Laid.leftO (h : Laid nu yn yu yv G pgs ws A) (i : Inv x A) {p q : Int} {o o' : Ob} (hp : p ∈ A.E) (ho : A.ob p = some o) (hw : o.way = p) (g0 : 0 ≤ o'.age) (g1 : o'.age ≤ 7) (y0 : 0 ≤ o'.par) (y1 : o'.par ≤ 1)
    (ht : TookU (1 + 2 * nu) G o.sz q pgs pgs') (wf : WF G pgs') (hl : pgs'.length = pgs.length) :
    A.ob q = none ∧ 0 < q ∧
    Laid nu yn yu yv G pgs' (movedW ws p q (o.n : Nat) (wordI (o.n : Nat) o.rs.length o'.age o'.par o'.grey false true)) (A.left p q o o' true) := by
  obtain ⟨c, rfl, hn, _, hc, hd, hne⟩ := ht
  have s2 : 2 ≤ o.sz := by unfold Ob.sz; omega
  have sp := used_span (F := 1 + 2 * nu) h.g0 wf hc
  rw [hl] at sp
  have hn0 := h.n0
  have hlen := h.len
  have hu := h.used
  have hv := h.le
  have h2 := hAt_two nu yn
  have q0 : 0 < c.pos := by omega
  have hqO : c.pos ∉ A.O := fun e => by
    obtain ⟨d, h1, h2⟩ := (h.old _).1 e
    exact hne d h1 h2
  have far : ∀ u v, A.ob u = some v → u.toNat + v.sz ≤ c.pos.toNat ∨ c.pos.toNat + o.sz ≤ u.toNat := fun u v e => by
    rcases h.where_ i e with ⟨_, _, _⟩ | ⟨_, _, _⟩ | ⟨e2, z1, z2⟩
    · omega
    · omega
    · obtain ⟨d, h3, rfl⟩ := (h.old u).1 e2
      have f := h.fit d h3 v e
      have dc : d ≠ c := fun z => hne d h3 (by rw [z])
      have := used_apart h.g0 wf ((hd d).2 (.inr h3)) hc dc
      omega
  have hq : A.ob c.pos = none := by
    cases e : A.ob c.pos with
    | none => rfl
    | some v =>
      have s2 : 2 ≤ v.sz := by unfold Ob.sz; omega
      have := far _ v e
      omega
  have fr := fresh i hq
  have rest := left_rest i (o' := o') (old := true) hp ho hw hq q0
  have fit : c.pos.toNat + o.sz ≤ ws.length := by omega
  have em : (A.left p c.pos o o' true).E = A.E := rfl
  have ef : (A.left p c.pos o o' true).F = A.F := rfl
  have eo : ∀ u, u ∈ (A.left p c.pos o o' true).O ↔ u ∈ A.O ∨ u = c.pos := fun u => by simp [Hp.left]
  have lies := h.lies.left (o' := o') (old := true) ho (fun e => i.eo p hp e) hq hqO q0 fit far g0 g1 y0 y1
  have len := (moved_get (x := wordI (o.n : Nat) o.rs.length o'.age o'.par o'.grey false true) (h.lies.pos p o ho) q0 (h.lies.at_ p o ho).fit fit).1
  refine ⟨hq, q0, ?_⟩
  exact
    { lies := lies, g0 := h.g0, wf := wf, n0 := h.n0, n1 := h.n1, le := h.le
      len := by rw [len, hl]; exact h.len
      hf := by rw [ef]; exact h.hf.same fun y hy => by rw [left_szf ho hq, if_neg (by rintro rfl; exact fr.1 hy)]
      he := by rw [em]; exact h.he.same fun y hy => by rw [left_szf ho hq, if_neg (by rintro rfl; exact fr.2.1 hy)]
      room := by have := h.room; omega
      old := fun u => by
        rw [eo, h.old]
        constructor
        · rintro (⟨d, h1, h2⟩ | rfl)
          · exact ⟨d, (hd d).2 (.inr h1), h2⟩
          · exact ⟨c, hc, rfl⟩
        · rintro ⟨d, h1, rfl⟩
          rcases (hd d).1 h1 with rfl | h1
          · exact .inr rfl
          · exact .inl ⟨d, h1, rfl⟩
      fit := fun d h1 v hv => by
        have e := left_szf (o' := o') (old := true) ho hq d.pos
        rw [Hp.szf_of hv] at e
        rcases (hd d).1 h1 with rfl | h1
        · rw [if_pos rfl] at e
          rw [e]; exact hn
        · rw [if_neg (hne d h1)] at e
          obtain ⟨v', hv'⟩ := (i.dom d.pos).2 (.inr (.inr ((h.old _).2 ⟨d, h1, rfl⟩)))
          rw [Hp.szf_of hv'] at e
          rw [e]
          exact h.fit d h1 v' hv' }
end
end Gc
end Go.Proofs.YthmhehehomieiaaGreat

/- How a heap lies behind what else happens to it. Of lists and pages alone. -/
namespace Go.Proofs.YthmhehehomieiaaGreat
namespace Gc
open Go.RowKit

section
variable {nu yu yv G : Int} {yn : Bool} {pgs : List Pg} {ws vs : List Int} {A B : Hp} {x : Int}

/-- What is told of the heap beside its objects may turn. -/
theorem Laid.side (h : Laid nu yn yu yv G pgs ws A) (h1 : B.ob = A.ob) (h2 : B.F = A.F) (h3 : B.E = A.E) (h4 : B.O = A.O) : Laid nu yn yu yv G pgs ws B := by
  have es : B.szf = A.szf := funext fun y => by unfold Hp.szf; rw [h1]
  have now : B.now = A.now := funext fun y => by unfold Hp.now; rw [h1, h3]
  have sum : ∀ L, B.sum L = A.sum L := fun L => by unfold Hp.sum; rw [es]
  have rest : B.rest = A.rest := by unfold Hp.rest Hp.un; rw [now, h3, sum]
  exact
    { lies := ⟨fun p o ho => by rw [h4]; exact h.lies.at_ p o (h1 ▸ ho), fun p o ho => h.lies.pos p o (h1 ▸ ho), fun p q o v e1 e2 n => h.lies.apart p q o v (h1 ▸ e1) (h1 ▸ e2) n⟩
      g0 := h.g0, wf := h.wf, n0 := h.n0, n1 := h.n1, len := h.len, le := h.le
      hf := by rw [h2]; exact h.hf.same fun y _ => by rw [es]
      he := by rw [h3]; exact h.he.same fun y _ => by rw [es]
      room := by rw [rest]; exact h.room
      old := fun p => by rw [h4]; exact h.old p
      fit := fun c hc o ho => h.fit c hc o (h1 ▸ ho) }

theorem put_szf {p : Int} {o o' : Ob} (ho : A.ob p = some o) (hz : o'.sz = o.sz) (y : Int) : (A.put p o').szf y = A.szf y := by
  have mob : (A.put p o').ob y = upd A.ob p o' y := rfl
  unfold Hp.szf
  rw [mob]
  by_cases e : y = p
  · subst e; rw [upd_self, ho]; exact hz
  · rw [upd_ne e]
theorem put_now {p : Int} {o o' : Ob} (ho : A.ob p = some o) (hw : o'.way = o.way) : (A.put p o').now = A.now := funext fun y => by
  have mob : (A.put p o').ob y = upd A.ob p o' y := rfl
  by_cases e : y ∈ A.E
  · by_cases e2 : y = p
    · subst e2
      rw [Hp.now_yes e ho, Hp.now_yes (o := o') (by exact e) (by rw [mob, upd_self]), hw]
    · unfold Hp.now
      rw [if_pos e, if_pos (show y ∈ (A.put p o').E from e), mob, upd_ne e2]
  · rw [Hp.now_no e, Hp.now_no (by exact e)]
theorem put_rest {p : Int} {o o' : Ob} (ho : A.ob p = some o) (hz : o'.sz = o.sz) (hw : o'.way = o.way) : (A.put p o').rest = A.rest := by
  unfold Hp.rest Hp.un
  rw [put_now ho hw]
  exact Hp.sum_same fun y _ => put_szf ho hz y

/-- An object has been written to. -/
theorem Laid.put (h : Laid nu yn yu yv G pgs ws A) {p : Int} {o o' : Ob} (ho : A.ob p = some o) (hz : o'.sz = o.sz) (hw : o'.way = o.way) (hl : vs.length = ws.length) (lies : Lies vs (A.put p o')) : Laid nu yn yu yv G pgs vs (A.put p o') :=
  { lies := lies, g0 := h.g0, wf := h.wf, n0 := h.n0, n1 := h.n1, le := h.le, old := h.old
    len := by rw [hl]; exact h.len
    hf := h.hf.same fun y _ => put_szf ho hz y
    he := h.he.same fun y _ => put_szf ho hz y
    room := by rw [put_rest ho hz hw]; exact h.room
    fit := fun c hc v hv => by
      have e := put_szf ho hz c.pos
      rw [Hp.szf_of hv] at e
      cases e2 : A.ob c.pos with
      | none =>
        have mob : (A.put p o').ob c.pos = upd A.ob p o' c.pos := rfl
        rw [mob] at hv
        by_cases e3 : c.pos = p
        · rw [e3, ho] at e2; cases e2
        · rw [upd_ne e3, e2] at hv; cases hv
      | some v' =>
        rw [Hp.szf_of e2] at e
        rw [e]
        exact h.fit c hc v' e2 }

/-- A cycle begins. -/
theorem Laid.start (h : Laid nu yn yu yv G pgs ws A) (i : Inv 0 A) : Laid nu (!yn) 0 yu G pgs ws A.start ∧ A.start.rest = yu := by
  have es : A.start.szf = A.szf := rfl
  have now : ∀ y ∈ A.F, A.start.now y = y := fun y e => by
    obtain ⟨o, ho⟩ := (i.dom y).2 (.inl e)
    rw [Hp.now_yes (A := A.start) (o := o) e ho]
    exact i.self y o e ho
  have un : A.start.un = A.F := List.filter_eq_self.2 fun y hy => decide_eq_true (now y hy)
  have rest : (A.start.rest : Int) = yu := by
    unfold Hp.rest
    rw [un, h.hf.use]
    rfl
  have hu := h.used
  refine ⟨?_, rest⟩
  exact
    { lies := ⟨h.lies.at_, h.lies.pos, h.lies.apart⟩, g0 := h.g0, wf := h.wf, n0 := h.n0, n1 := h.n1, len := h.len
      le := hu.2.1
      hf := Row.nil
      he := by rw [Bool.not_not]; exact h.hf.same fun _ _ => rfl
      room := by rw [rest]; omega
      old := h.old
      fit := h.fit }

/-- A cycle ends. -/
theorem Laid.stop (h : Laid nu yn yu yv G pgs ws A) (i : Inv x A) : Laid nu yn yu 0 G pgs ws A.stop := by
  have ob : ∀ p o, A.stop.ob p = some o → A.ob p = some o := fun p o e => by
    have e : (if p ∈ A.E then none else A.ob p) = some o := e
    split at e
    · cases e
    · exact e
  have es : ∀ y, y ∉ A.E → A.stop.szf y = A.szf y := fun y hy => by
    unfold Hp.szf
    rw [show A.stop.ob y = A.ob y from if_neg hy]
  have rest : A.stop.rest = 0 := rfl
  exact
    { lies := ⟨fun p o ho => h.lies.at_ p o (ob p o ho), fun p o ho => h.lies.pos p o (ob p o ho), fun p q o v e1 e2 n => h.lies.apart p q o v (ob p o e1) (ob q v e2) n⟩
      g0 := h.g0, wf := h.wf, n0 := h.n0, n1 := h.n1, len := h.len
      le := h.n0
      hf := h.hf.same fun y hy => es y (i.fe y hy)
      he := Row.nil
      room := by rw [rest]; have := h.used; omega
      old := h.old
      fit := fun c hc o ho => h.fit c hc o (ob _ o ho) }

/-- Something new. -/
theorem Laid.make (h : Laid nu yn yu yv G pgs ws A) (i : Inv x A) {a b : Nat} {y : Int} (hn : yu + ((a + b + 2 : Nat) : Int) + A.rest ≤ nu) (s64 : a + b ≤ 64) (y0 : 0 ≤ y) (y1 : y ≤ 1) :
    A.ob (hAt nu 1 yn + yu) = none ∧ 0 < hAt nu 1 yn + yu ∧
    Laid nu yn (yu + ((a + b + 2 : Nat) : Int)) yv G pgs (madeW ws (hAt nu 1 yn + yu) (a + b : Nat) (wordI (a + b : Nat) a 0 y false false false)) (A.make (hAt nu 1 yn + yu) ⟨0, y, false, false, hAt nu 1 yn + yu, List.replicate a 0, List.replicate b 0⟩) ∧
    (A.make (hAt nu 1 yn + yu) ⟨0, y, false, false, hAt nu 1 yn + yu, List.replicate a 0, List.replicate b 0⟩).rest = A.rest := by
  obtain ⟨hq, q0, hqO, fit, far⟩ := h.next i (n := a + b + 2) (by omega) (by omega)
  have lies := h.lies.make hq hqO q0 fit far s64 y0 y1
  have len := (made_get (ws := ws) (n := a + b) (x := wordI (a + b : Nat) a 0 y false false false) q0 fit).1
  have ez : (⟨0, y, false, false, hAt nu 1 yn + yu, List.replicate a 0, List.replicate b 0⟩ : Ob).sz = a + b + 2 := by simp [Ob.sz, Ob.n]
  generalize eo : (⟨0, y, false, false, hAt nu 1 yn + yu, List.replicate a 0, List.replicate b 0⟩ : Ob) = o at *
  generalize eq : hAt nu 1 yn + yu = q at *
  have fr := fresh i hq
  have mob : ∀ u, (A.make q o).ob u = upd A.ob q { o with way := q, noted := false } u := fun _ => rfl
  have szf : ∀ u, u ≠ q → (A.make q o).szf u = A.szf u := fun u hu => by unfold Hp.szf; rw [mob, upd_ne hu]
  have szq : (A.make q o).szf q = a + b + 2 := by unfold Hp.szf; rw [mob, upd_self]; exact ez
  have now : ∀ u, u ≠ q → (A.make q o).now u = A.now u := fun u hu => by
    unfold Hp.now
    rw [mob, upd_ne hu]
    rfl
  have nE : ∀ u ∈ A.E, u ≠ q := fun u hu e => fr.2.1 (e ▸ hu)
  have rest : (A.make q o).rest = A.rest := by
    unfold Hp.rest Hp.un
    have : (A.make q o).E = A.E := rfl
    rw [this, List.filter_congr fun u hu => by rw [now u (nE u hu)]]
    exact Hp.sum_same fun u hu => szf u (nE u (List.mem_filter.1 hu).1)
  refine ⟨hq, q0, ?_, rest⟩
  exact
    { lies := lies, g0 := h.g0, wf := h.wf, n0 := h.n0, n1 := h.n1, le := h.le, old := h.old
      len := by rw [len]; exact h.len
      hf := by
        have k : Row (A.make q o) (hAt nu 1 yn) A.F yu := h.hf.same fun u hu => szf u fun e => fr.1 (e ▸ hu)
        have := k.snoc eq.symm
        rwa [szq] at this
      he := h.he.same fun u hu => szf u (nE u hu)
      room := by rw [rest]; omega
      fit := fun c hc v hv => by
        have nq : c.pos ≠ q := fun z => hqO ((h.old _).2 ⟨c, hc, z⟩)
        rw [mob, upd_ne nq] at hv
        exact h.fit c hc v hv }
end
end Gc
end Go.Proofs.YthmhehehomieiaaGreat

/- Moves, and an object whose references are gone through: what they keep. Of lists alone. -/
namespace Go.Proofs.YthmhehehomieiaaGreat
namespace Gc

/-- Move, of a place where something stands, or of none. -/
inductive MoveR (A : Hp) (p : Int) : Hp → Int → Prop
  | stay : p ∉ A.E → MoveR A p A p
  | gone {o : Ob} : p ∈ A.E → A.ob p = some o → o.way ≠ p → MoveR A p A o.way
  | goes {q : Int} {o o' : Ob} {old : Bool} : p ∈ A.E → A.ob p = some o → o.way = p → A.ob q = none → 0 < q → MoveR A p (A.left p q o o' old) q

/-- Some objects have left the half that is emptied. -/
structure Mvd (A B : Hp) : Prop where
  E : B.E = A.E
  hs : B.hs = A.hs
  k : B.k = A.k
  X : B.X = A.X
  Y : B.Y = A.Y
  D : B.D = A.D
  F : ∃ l, B.F = A.F ++ l
  O : ∃ l, B.O = A.O ++ l ∧ B.row = A.row ++ l
  ob : ∀ p o, p ∉ A.E → A.ob p = some o → B.ob p = some o
  obE : ∀ p o, p ∈ A.E → A.ob p = some o → ∃ y, B.ob p = some { o with way := y }
  rep : ∀ G f, Rep A G f → ∃ f', Rep B G f'
  few : B.row.length + B.F.length + 2 * B.un.length ≤ A.row.length + A.F.length + 2 * A.un.length

theorem Mvd.refl (A : Hp) : Mvd A A :=
  ⟨rfl, rfl, rfl, rfl, rfl, rfl, ⟨[], by simp⟩, ⟨[], by simp, by simp⟩, fun _ _ _ h => h, fun _ o _ h => ⟨o.way, h⟩, fun _ f h => ⟨f, h⟩, Nat.le_refl _⟩

theorem Mvd.trans {A B C : Hp} (h : Mvd A B) (k : Mvd B C) : Mvd A C := by
  obtain ⟨l1, f1⟩ := h.F
  obtain ⟨l2, f2⟩ := k.F
  obtain ⟨m1, o1, r1⟩ := h.O
  obtain ⟨m2, o2, r2⟩ := k.O
  exact
    { E := k.E.trans h.E, hs := k.hs.trans h.hs, k := k.k.trans h.k, X := k.X.trans h.X, Y := k.Y.trans h.Y, D := k.D.trans h.D
      F := ⟨l1 ++ l2, by rw [f2, f1, List.append_assoc]⟩
      O := ⟨m1 ++ m2, by rw [o2, o1, List.append_assoc], by rw [r2, r1, List.append_assoc]⟩
      ob := fun p o hp ho => k.ob p o (by rw [h.E]; exact hp) (h.ob p o hp ho)
      obE := fun p o hp ho => by
        obtain ⟨y, e⟩ := h.obE p o hp ho
        obtain ⟨z, e⟩ := k.obE p _ (by rw [h.E]; exact hp) e
        exact ⟨z, e⟩
      rep := fun G f r => by
        obtain ⟨f', r⟩ := h.rep G f r
        exact k.rep G f' r
      few := Nat.le_trans k.few h.few }

section
variable {x : Int} {A B : Hp}

theorem un_mem {p : Int} {o : Ob} (hp : p ∈ A.E) (ho : A.ob p = some o) : p ∈ A.un ↔ o.way = p := by
  unfold Hp.un
  rw [List.mem_filter, decide_eq_true_eq, Hp.now_yes hp ho]
  exact ⟨fun h => h.2, fun h => ⟨hp, h⟩⟩

theorem left_un (h : Inv x A) {p q : Int} {o o' : Ob} {old : Bool} (hp : p ∈ A.E) (ho : A.ob p = some o) (hw : o.way = p) (hq : A.ob q = none) (q0 : 0 < q) : (A.left p q o o' old).un.length + 1 = A.un.length := by
  have hpn : A.now p = p := by rw [Hp.now_yes hp ho, hw]
  have eu : (A.left p q o o' old).un = A.un.filter fun y => decide (y ≠ p) := by
    unfold Hp.un
    rw [List.filter_filter]
    refine List.filter_congr fun y hy => ?_
    have yq : y ≠ q := fun e => (fresh h hq).2.1 (e ▸ hy)
    rw [left_now h hp ho hw hq (.inr (.inr (.inl hy))) q0]
    rw [Bool.eq_iff_iff, Bool.and_eq_true, decide_eq_true_eq, decide_eq_true_eq, decide_eq_true_eq]
    by_cases e : A.now y = p
    · rw [if_pos e]
      exact ⟨fun z => absurd z.symm yq, fun z => absurd (z.2.symm.trans e) z.1⟩
    · rw [if_neg e]
      exact ⟨fun z => ⟨fun w => e (by rw [w]; exact hpn), z⟩, fun z => z.2⟩
  have pu : p ∈ A.un := (un_mem hp ho).2 hw
  have nd : A.un.Nodup := h.ne.sublist (l₁ := A.un) List.filter_sublist
  rw [eu]
  have : A.un.filter (fun y => decide (y ≠ p)) = A.un.erase p := by
    rw [nd.erase_eq_filter]
    exact List.filter_congr fun y _ => by by_cases e : y = p <;> simp [e]
  rw [this, List.length_erase_of_mem pu]
  have := List.length_pos_of_mem pu
  omega

/-- What a move keeps. -/
theorem MoveR.keeps (i : Inv x A) (hx : x = 0 ∨ ∃ v, A.ob x = some v) {p r : Int} (hp : A.ok p) (m : MoveR A p B r) : Inv x B ∧ Mvd A B ∧ B.ok r ∧ r ∉ B.E ∧ B.now p = r ∧ (r = 0 ↔ p = 0) := by
  cases m with
  | stay hE => exact ⟨i, .refl A, hp, hE, Hp.now_no hE, Iff.rfl⟩
  | @gone o hE ho hw =>
    have e := Hp.now_yes hE ho
    have p0 := i.ob_pos ho
    refine ⟨i, .refl A, ?_, ?_, e, ?_⟩
    · rw [← e]; exact i.now_ok hp
    · rcases i.way p o hE ho with z | z | z
      · exact absurd z hw
      · exact i.fe _ z
      · exact fun y => i.eo _ y z
    · refine ⟨fun z => ?_, fun z => by omega⟩
      exact i.now_zero hp (e.trans z)
  | @goes _ o o' old hE ho hw hq q0 =>
    have hxq : r ≠ x := by
      rintro rfl
      rcases hx with e | ⟨v, e⟩
      · omega
      · rw [hq] at e; cases e
    have fr := fresh i hq
    have pq : p ≠ r := fun e => by rw [e, hq] at ho; cases ho
    have p0 := i.ob_pos ho
    have mob : ∀ y, (A.left p r o o' old).ob y = upd (upd A.ob p { o with way := r }) r { o' with way := r, noted := false, rs := o.rs, ss := o.ss } y := fun _ => rfl
    refine ⟨i.left hE ho hq q0 hxq, ?_, ?_, fr.2.1, ?_, by omega⟩
    · exact
        { E := rfl, hs := rfl, k := rfl, X := rfl, Y := rfl, D := rfl
          F := by cases old
                  · exact ⟨[r], rfl⟩
                  · exact ⟨[], by simp [Hp.left]⟩
          O := by cases old
                  · exact ⟨[], by simp [Hp.left], by simp [Hp.left]⟩
                  · exact ⟨[r], rfl, rfl⟩
          ob := fun u v hu hv => by
            have n1 : u ≠ r := by rintro rfl; rw [hq] at hv; cases hv
            have n2 : u ≠ p := by rintro rfl; exact hu hE
            rw [mob, upd_ne n1, upd_ne n2]; exact hv
          obE := fun u v hu hv => by
            have n1 : u ≠ r := by rintro rfl; rw [hq] at hv; cases hv
            by_cases n2 : u = p
            · subst n2
              rw [ho] at hv; cases hv
              exact ⟨r, by rw [mob, upd_ne n1, upd_self]⟩
            · exact ⟨v.way, by rw [mob, upd_ne n1, upd_ne n2]; exact hv⟩
          rep := fun G f rp => ⟨_, rp.left i hE ho hw hq q0⟩
          few := by
            have := left_un i (o' := o') (old := old) hE ho hw hq q0
            cases old <;> simp [Hp.left] at this ⊢ <;> omega }
    · cases old
      · exact .inr (.inl (by simp [Hp.left]))
      · exact .inr (.inr (.inr (by simp [Hp.left])))
    · rw [left_now i hE ho hw hq hp q0, Hp.now_yes hE ho, if_pos hw]

/-- A reference is where the other object is now. -/
theorem Inv.refer (i : Inv x A) {p r r' : Int} {o : Ob} {n : Nat} (ho : A.ob p = some o) (hx : p ∈ A.O → p = x) (hn : o.rs[n]? = some r) (hr : A.now r = r') (hE : r' ∉ A.E) (hok : A.ok r') :
    Inv x (A.put p { o with rs := o.rs.set n r' }) ∧ ∀ G f, Rep A G f → Rep (A.put p { o with rs := o.rs.set n r' }) G f := by
  have nl := (List.getElem?_eq_some_iff.1 hn).1
  have mem : ∀ y ∈ o.rs.set n r', y ∈ o.rs ∨ y = r' := fun y hy => List.mem_or_eq_of_mem_set hy
  refine ⟨i.put ho rfl (fun y hy => ?_) (fun h1 h2 => absurd (hx h1) h2) (fun h => i.noted p o ho h) (fun h1 y hy => ?_), fun G f rp => rp.put ho rfl ?_ rfl⟩
  · rcases mem y hy with e | rfl
    · exact i.ref p o ho y e
    · exact hok
  · rcases mem y hy with e | rfl
    · exact i.cur p h1 o ho y e
    · exact hE
  · show (o.rs.set n r').map A.now = o.rs.map A.now
    rw [List.map_set, show A.now r' = r' from Hp.now_no hE, ← hr]
    have : (o.rs.map A.now)[n]? = some (A.now r) := by rw [List.getElem?_map, hn]; rfl
    exact set_same this
end
end Gc
end Go.Proofs.YthmhehehomieiaaGreat

/- Contracts of the program's Used, Left, Room, In, From, Begin, Take, Flip, Drop. -/
namespace Go.Proofs.YthmhehehomieiaaGreat
open Go.RowKit

theorem half_from (a u : Int) (w : World) : (Instr.field 150 (.agg #[.int .i64 a, .int .i64 u]) 0).run Tryz.prog w = .ok (.int .i64 a) w := by kernel_rfl
theorem half_used (a u : Int) (w : World) : (Instr.field 150 (.agg #[.int .i64 a, .int .i64 u]) 1).run Tryz.prog w = .ok (.int .i64 u) w := by kernel_rfl

set_option maxHeartbeats 1000000 in
theorem bUsed_nil (w : World) : Calls Tryz.prog 68 #[.pointer none] w fun e w' => e = .returned (.int .i64 0) ∧ Below w.heap.size w w' := by
  have fd := half_used
  go_enter Tryz.func68, Tryz.ntmps68
  go_wp2_with fail
  refine (filled_nil _).mono ?_
  rintro e w1 ⟨rfl, b1⟩
  go_wp2
  go_ret
  exact ⟨rfl, b1⟩

set_option maxHeartbeats 1000000 in
theorem bLeft_nil (w : World) : Calls Tryz.prog 51 #[.pointer none] w fun e w' => e = .returned (.int .i64 0) ∧ Below w.heap.size w w' := by
  have fd := half_used
  go_enter Tryz.func51, Tryz.ntmps51
  go_wp2_with fail
  refine (other_nil _).mono ?_
  rintro e w1 ⟨rfl, b1⟩
  go_wp2
  go_ret
  exact ⟨rfl, b1⟩

set_option maxHeartbeats 1000000 in
theorem bRoom_nil (w : World) : Calls Tryz.prog 125 #[.pointer none] w fun e w' => e = .returned (.int .i64 0) ∧ Below w.heap.size w w' := by
  go_enter Tryz.func125, Tryz.ntmps125
  go_wp2
  go_ret
  exact ⟨rfl, Below.refl _ _⟩

set_option maxHeartbeats 1000000 in
theorem bIn_nil (x : Int) (w : World) : Calls Tryz.prog 130 #[.pointer none, .int .i64 x] w fun e w' => e = .returned (.bool (inH 0 0 x)) ∧ Below w.heap.size w w' := by
  go_enter Tryz.func130, Tryz.ntmps130
  go_wp2_with fail
  refine (filled_nil _).mono ?_
  rintro e w1 ⟨rfl, b1⟩
  go_wp2_with fail
  refine (bHas_any 0 0 x w1 (by omega) (by omega) (by omega) (by omega)).mono ?_
  rintro e w2 ⟨rfl, b2⟩
  go_wp2
  go_ret
  exact ⟨rfl, below_trans b1 b2⟩

set_option maxHeartbeats 1000000 in
theorem bFrom_nil (x : Int) (w : World) : Calls Tryz.prog 56 #[.pointer none, .int .i64 x] w fun e w' => e = .returned (.bool (inH 0 0 x)) ∧ Below w.heap.size w w' := by
  go_enter Tryz.func56, Tryz.ntmps56
  go_wp2_with fail
  refine (other_nil _).mono ?_
  rintro e w1 ⟨rfl, b1⟩
  go_wp2_with fail
  refine (bHas_any 0 0 x w1 (by omega) (by omega) (by omega) (by omega)).mono ?_
  rintro e w2 ⟨rfl, b2⟩
  go_wp2
  go_ret
  exact ⟨rfl, below_trans b1 b2⟩

set_option maxHeartbeats 1000000 in
theorem bBegin_nil (w : World) : Calls Tryz.prog 102 #[.pointer none] w fun e w' => e = .returned (.tuple #[.int .i64 0, .int .i64 0]) ∧ Below w.heap.size w w' := by
  have fd := half_from
  go_enter Tryz.func102, Tryz.ntmps102
  go_wp2_with fail
  refine (filled_nil _).mono ?_
  rintro e w1 ⟨rfl, b1⟩
  go_wp2_with fail
  refine (other_nil _).mono ?_
  rintro e w2 ⟨rfl, b2⟩
  go_wp2
  go_ret2
  exact ⟨rfl, below_trans b1 b2⟩

set_option maxHeartbeats 1000000 in
theorem bTake_nil (k : Int) (w : World) : Calls Tryz.prog 155 #[.pointer none, .int .i64 k] w fun e w' => e = .returned (.tuple #[.int .i64 0, .bool false]) ∧ Below w.heap.size w w' := by
  by_cases h : k < 1
  · go_enter Tryz.func155, Tryz.ntmps155
    go_wp2
    go_ret2
    exact ⟨rfl, Below.refl _ _⟩
  · go_enter Tryz.func155, Tryz.ntmps155
    go_wp2_with fail
    refine (bRoom_nil _).mono ?_
    rintro e w1 ⟨rfl, b1⟩
    go_wp2
    go_ret2
    exact ⟨rfl, b1⟩

set_option maxHeartbeats 1000000 in
theorem bFlip_nil (w : World) : Calls Tryz.prog 100 #[.pointer none] w fun e w' => e = .returned (.bool false) ∧ Below w.heap.size w w' := by
  go_enter Tryz.func100, Tryz.ntmps100
  go_wp2
  go_ret
  exact ⟨rfl, Below.refl _ _⟩

set_option maxHeartbeats 1000000 in
theorem bDrop_nil (w : World) : Calls Tryz.prog 137 #[.pointer none] w fun e w' => e = .returned (.bool false) ∧ Below w.heap.size w w' := by
  go_enter Tryz.func137, Tryz.ntmps137
  go_wp2_with fail
  refine (bLeft_nil _).mono ?_
  rintro e w1 ⟨rfl, b1⟩
  go_wp2
  go_ret
  exact ⟨rfl, b1⟩

section
variable (b : Nat) (W F : Int) (n : Bool) (u v : Int) (w : World)

set_option maxHeartbeats 1000000 in
theorem bUsed_any (h : IsBp w b W F n u v) : Calls Tryz.prog 68 #[bpP b] w fun e w' => e = .returned (.int .i64 u) ∧ Below w.heap.size w w' := by
  have HH := Lib.hid h
  clear h
  have fd := half_used
  go_enter Tryz.func68, Tryz.ntmps68
  go_wp2_with fail
  refine (filled_any b W F n u v w HH.out).mono ?_
  rintro e w1 ⟨rfl, b1⟩
  go_wp2
  go_ret
  exact ⟨rfl, b1⟩

set_option maxHeartbeats 1000000 in
theorem bLeft_any (h : IsBp w b W F n u v) : Calls Tryz.prog 51 #[bpP b] w fun e w' => e = .returned (.int .i64 v) ∧ Below w.heap.size w w' := by
  have HH := Lib.hid h
  clear h
  have fd := half_used
  go_enter Tryz.func51, Tryz.ntmps51
  go_wp2_with fail
  refine (other_any b W F n u v w HH.out).mono ?_
  rintro e w1 ⟨rfl, b1⟩
  go_wp2
  go_ret
  exact ⟨rfl, b1⟩

theorem IsBp.first {w : World} {b : Nat} {W F u v : Int} {n : Bool} (h : IsBp w b W F n u v) : w.cell? ⟨b, 0, none⟩ = some (.int .i64 W) := by
  have := h.blk.cell 0
  cases n <;> exact this

set_option maxHeartbeats 2000000 in
theorem bRoom_any (h : IsBp w b W F n u v) : Calls Tryz.prog 125 #[bpP b] w fun e w' => e = .returned (.int .i64 (W - u)) ∧ Below w.heap.size w w' := by
  have w0 := h.w0
  have w1 := h.w1
  have u0 := h.u0
  have u1 := h.u1
  have kk := h.keep (below_drew w)
  have bb := below_drew w
  have HH := Lib.hid h
  have c0 := h.first
  have hs : IntKind.i64.wrap (W - u) = W - u := IntWalk.i64_in _ (by omega)
  clear h
  go_enter Tryz.func125, Tryz.ntmps125
  go_wp2_with fail
  clear c0
  go_region_held3 (fun w' => w'.cell? ⟨b, 0, none⟩ = some (.int .i64 W)) (exact kk.first)
    ((go_at_call 68; refine (bUsed_any b W F n u v _ kk).mono ?_; rintro e v1 ⟨rfl, b2⟩; have kk := kk.keep b2; have bb := below_trans bb b2; clear b2))
  all_goals
    go_wp2
    go_ret
    exact ⟨rfl, bb⟩

set_option maxHeartbeats 1000000 in
theorem bIn_any (x : Int) (h : IsBp w b W F n u v) : Calls Tryz.prog 130 #[bpP b, .int .i64 x] w fun e w' => e = .returned (.bool (inH (hAt W F n) u x)) ∧ Below w.heap.size w w' := by
  have HH := Lib.hid h
  have HI := Lib.hid (hAt_in n h.w0 h.w1 h.f0 h.f1)
  clear h
  generalize hA : hAt W F n = A at HI ⊢
  have HA := Lib.hid hA
  clear hA
  go_enter Tryz.func130, Tryz.ntmps130
  go_wp2_with fail
  refine (filled_any b W F n u v w HH.out).mono ?_
  rw [HA.out]
  rintro e w1 ⟨rfl, b1⟩
  go_wp2_with fail
  refine (bHas_any A u x w1 HI.out.1 HI.out.2 HH.out.u0 (Int.le_trans HH.out.u1 HH.out.w1)).mono ?_
  rintro e w2 ⟨rfl, b2⟩
  go_wp2
  go_ret
  exact ⟨rfl, below_trans b1 b2⟩

set_option maxHeartbeats 1000000 in
theorem bFrom_any (x : Int) (h : IsBp w b W F n u v) : Calls Tryz.prog 56 #[bpP b, .int .i64 x] w fun e w' => e = .returned (.bool (inH (hAt W F (!n)) v x)) ∧ Below w.heap.size w w' := by
  have HH := Lib.hid h
  have HI := Lib.hid (hAt_in (!n) h.w0 h.w1 h.f0 h.f1)
  clear h
  generalize hA : hAt W F (!n) = A at HI ⊢
  have HA := Lib.hid hA
  clear hA
  go_enter Tryz.func56, Tryz.ntmps56
  go_wp2_with fail
  refine (other_any b W F n u v w HH.out).mono ?_
  rw [HA.out]
  rintro e w1 ⟨rfl, b1⟩
  go_wp2_with fail
  refine (bHas_any A v x w1 HI.out.1 HI.out.2 HH.out.v0 (Int.le_trans HH.out.v1 HH.out.w1)).mono ?_
  rintro e w2 ⟨rfl, b2⟩
  go_wp2
  go_ret
  exact ⟨rfl, below_trans b1 b2⟩

set_option maxHeartbeats 1000000 in
theorem bBegin_any (h : IsBp w b W F n u v) : Calls Tryz.prog 102 #[bpP b] w fun e w' => e = .returned (.tuple #[.int .i64 (hAt W F n), .int .i64 (hAt W F (!n))]) ∧ Below w.heap.size w w' := by
  have HH := Lib.hid h
  clear h
  generalize hA : hAt W F n = A
  generalize hB : hAt W F (!n) = B
  have HA := Lib.hid hA
  have HB := Lib.hid hB
  clear hA hB
  have fd := half_from
  go_enter Tryz.func102, Tryz.ntmps102
  go_wp2_with fail
  refine (filled_any b W F n u v w HH.out).mono ?_
  rw [HA.out]
  rintro e w1 ⟨rfl, b1⟩
  go_wp2_with fail
  refine (other_any b W F n u v w1 (HH.out.keep b1)).mono ?_
  rw [HB.out]
  rintro e w2 ⟨rfl, b2⟩
  go_wp2
  go_ret2
  exact ⟨rfl, below_trans b1 b2⟩

set_option maxHeartbeats 1000000 in
theorem bTake_no (k : Int) (h : IsBp w b W F n u v) (hk : k < 1 ∨ W - u < k) :
    Calls Tryz.prog 155 #[bpP b, .int .i64 k] w fun e w' => e = .returned (.tuple #[.int .i64 0, .bool false]) ∧ Below w.heap.size w w' := by
  have HH := Lib.hid h
  clear h
  by_cases h1 : k < 1
  · clear hk
    go_enter Tryz.func155, Tryz.ntmps155
    go_wp2
    go_ret2
    exact ⟨rfl, Below.refl _ _⟩
  · have h2 : W - u < k := by omega
    clear hk
    go_enter Tryz.func155, Tryz.ntmps155
    go_wp2_with fail
    refine (bRoom_any b W F n u v w HH.out).mono ?_
    rintro e w1 ⟨rfl, b1⟩
    go_wp2
    go_ret2
    exact ⟨rfl, b1⟩

end

section
variable {w : World} {b : Nat} {W F u v : Int} {n : Bool}
theorem IsBp.setU (h : IsBp w b W F n u v) (x : Int) (x0 : 0 ≤ x) (x1 : x ≤ W) : IsBp (w.setCell ⟨b, bif n then 4 else 2, none⟩ (.int .i64 x)) b W F n x v :=
  { h with blk := by have := h.blk.set_ (bif n then 4 else 2) (.int .i64 x); cases n <;> exact this
           u0 := x0
           u1 := x1 }
theorem IsBp.setV (h : IsBp w b W F n u v) (x : Int) (x0 : 0 ≤ x) (x1 : x ≤ W) : IsBp (w.setCell ⟨b, bif n then 2 else 4, none⟩ (.int .i64 x)) b W F n u x :=
  { h with blk := by have := h.blk.set_ (bif n then 2 else 4) (.int .i64 x); cases n <;> exact this
           v0 := x0
           v1 := x1 }
theorem IsBp.turn (h : IsBp w b W F n u v) : IsBp (w.setCell ⟨b, 5, none⟩ (.int .i64 (bif n then 0 else 1))) b W F (!n) v u :=
  { h with blk := by have := h.blk.set_ 5 (.int .i64 (bif n then 0 else 1)); cases n <;> exact this
           u0 := h.v0
           u1 := h.v1
           v0 := h.u0
           v1 := h.u1 }
theorem frm_one {w w1 : World} {b : Nat} (h : Below w.heap.size w w1) (i : Nat) (x : Value) : Frm (· = b) w (w1.setCell ⟨b, i, none⟩ x) :=
  (Frm.of_below (S := fun k => k = b) h).setCell (p := ⟨b, i, none⟩) (fun _ => rfl) x
end

section
variable (b : Nat) (W F : Int) (n : Bool) (u v : Int) (w : World)

set_option maxHeartbeats 4000000 in
theorem bTake_yes (k : Int) (h : IsBp w b W F n u v) (h1 : 1 ≤ k) (h2 : k ≤ W - u) :
    Calls Tryz.prog 155 #[bpP b, .int .i64 k] w fun e w' => e = .returned (.tuple #[.int .i64 (hAt W F n + u), .bool true]) ∧ IsBp w' b W F n (u + k) v ∧ Frm (· = b) w w' := by
  have w0 := h.w0
  have w1 := h.w1
  have f0 := h.f0
  have f1 := h.f1
  have u0 := h.u0
  have u1 := h.u1
  have HH := Lib.hid h
  clear h
  cases n
  all_goals
    go_enter Tryz.func155, Tryz.ntmps155
    go_wp2_with fail
    refine (bRoom_any b W F _ u v w HH.out).mono ?_
    rintro e w1 ⟨rfl, b1⟩
    have hi := HH.out.keep b1
    have hl := hi.lt
    obtain ⟨c0, c1, c2, c3, c4, c5, cf⟩ := hi.blk.six
    have HI := Lib.hid hi
    clear hi c0
    go_wp2_with fail
    go_region
    go_wp2_with fail
    go_region
    go_wp2
    go_ret2
    refine ⟨rfl, ?_, ?_⟩
    · exact ((HI.out.setU (u + k) (by omega) (by omega)).keep (below_drew _)).keep (below_drew _)
    · exact (frm_one b1 _ _).drew.drew

set_option maxHeartbeats 4000000 in
theorem bFlip_no (h : IsBp w b W F n u v) (hv : 0 < v) :
    Calls Tryz.prog 100 #[bpP b] w fun e w' => e = .returned (.bool false) ∧ Below w.heap.size w w' := by
  have HH := Lib.hid h
  clear h
  go_enter Tryz.func100, Tryz.ntmps100
  go_wp2_with fail
  refine (bLeft_any b W F n u v w HH.out).mono ?_
  rintro e w1 ⟨rfl, b1⟩
  go_wp2
  go_ret
  exact ⟨rfl, b1⟩

set_option maxHeartbeats 4000000 in
theorem bFlip_yes (h : IsBp w b W F n u 0) :
    Calls Tryz.prog 100 #[bpP b] w fun e w' => e = .returned (.bool true) ∧ IsBp w' b W F (!n) 0 u ∧ Frm (· = b) w w' := by
  have HH := Lib.hid h
  clear h
  cases n
  all_goals
    go_enter Tryz.func100, Tryz.ntmps100
    go_wp2_with fail
    refine (bLeft_any b W F _ u 0 w HH.out).mono ?_
    rintro e w1 ⟨rfl, b1⟩
    have hi := HH.out.keep b1
    have hl := hi.lt
    obtain ⟨c0, c1, c2, c3, c4, c5, cf⟩ := hi.blk.six
    have HI := Lib.hid hi
    clear hi c0 c1 c2 c3 c4
    go_wp2
    go_ret
    exact ⟨rfl, HI.out.turn, frm_one b1 _ _⟩

set_option maxHeartbeats 4000000 in
theorem bDrop_no (h : IsBp w b W F n u 0) :
    Calls Tryz.prog 137 #[bpP b] w fun e w' => e = .returned (.bool false) ∧ Below w.heap.size w w' := by
  have HH := Lib.hid h
  clear h
  go_enter Tryz.func137, Tryz.ntmps137
  go_wp2_with fail
  refine (bLeft_any b W F n u 0 w HH.out).mono ?_
  rintro e w1 ⟨rfl, b1⟩
  go_wp2
  go_ret
  exact ⟨rfl, b1⟩

set_option maxHeartbeats 4000000 in
theorem bDrop_yes (h : IsBp w b W F n u v) (hv : 0 < v) :
    Calls Tryz.prog 137 #[bpP b] w fun e w' => e = .returned (.bool true) ∧ IsBp w' b W F n u 0 ∧ Frm (· = b) w w' := by
  have w0 := h.w0
  have HH := Lib.hid h
  have hv2 : (v == 0) = false := by simp; omega
  have hv3 : decide (v = 0) = false := by simp; omega
  clear h
  cases n
  all_goals
    go_enter Tryz.func137, Tryz.ntmps137
    go_wp2_with fail
    refine (bLeft_any b W F _ u v w HH.out).mono ?_
    rintro e w1 ⟨rfl, b1⟩
    have hi := HH.out.keep b1
    have hl := hi.lt
    obtain ⟨c0, c1, c2, c3, c4, c5, cf⟩ := hi.blk.six
    have HI := Lib.hid hi
    clear hi c0
    go_wp2_with fail
    go_region
    go_wp2
    go_ret
    refine ⟨rfl, ?_, ?_⟩
    · exact (HI.out.setV 0 (by omega) (by omega)).keep (below_drew _)
    · exact (frm_one b1 _ _).drew
end
end Go.Proofs.YthmhehehomieiaaGreat

/- What is asked of the program's space (package mature), as one structure: the statements' walks lean on it alone. And: two lists of the same numbers are the same. -/
namespace Go.Proofs.YthmhehehomieiaaGreat
open Go.RowKit

def pendV (ps : List Bool) : Value := match ps.findIdx? id with
  | some i => .tuple #[.int .i64 i, .bool true]
  | none => .tuple #[.int .i64 0, .bool false]

def wasB (ps : List Bool) (n : Int) : Bool := decide (0 ≤ n) && (ps[n.toNat]?).getD false

def doneP (ps : List Bool) (n : Int) : List Bool := if wasB ps n then ps.set n.toNat false else ps

def pageV (F G : Int) (N : Nat) (n : Int) : Value := if 0 ≤ n ∧ n < N then .tuple #[.int .i64 (F + n * G), .int .i64 (F + n * G + G)] else .tuple #[.int .i64 0, .int .i64 0]



theorem starts_few {F G f t : Int} {pgs : List Pg} (g1 : G ≤ 256) (wf : WF G pgs) (hN : pgs.length ≤ 64) : (startsP F G pgs f t).length ≤ 4096 := by
  rw [startsP, List.length_map]
  have := cellsP_few (F := F) g1 wf
  have := List.length_filter_le (inR f t) (cellsP F G pgs)
  omega

set_option maxHeartbeats 1000000 in
theorem ints_same (B1 B2 : Nat) (u1 u2 : Value) (ys : List Int) (w : World) (h1 : OwnI w B1 u1 ys) (h2 : OwnI w B2 u2 ys) (hl : ys.length ≤ 4096) :
    Calls Tryz.prog 49 #[u1, u2] w fun e w' => e = .returned (.bool true) ∧ Below w.heap.size w w' := by
  obtain ⟨a1, cap1, rfl, c1⟩ := h1.at_
  obtain ⟨a2, cap2, rfl, c2⟩ := h2.at_
  have C1 := Lib.hid c1
  have C2 := Lib.hid c2
  clear c1 c2 h1 h2
  go_enter Tryz.func49, Tryz.ntmps49
  go_wp2_with fail
  go_loopw [5] (fun s wr => ∃ j m : Nat, j ≤ ys.length ∧ s = .int .i64 j ∧ wr = w.drewN m) (fun s _ => ys.length - (intOf s).toNat)
  case atStart => exact ⟨0, 0, Nat.zero_le _, rfl, rfl⟩
  case round =>
    obtain ⟨j, m, hj, rfl, rfl⟩ := hrel
    by_cases hlt : j < ys.length
    · have hy : ys[j]? = some ys[j] := List.getElem?_eq_getElem hlt
      generalize ys[j] = y at hy
      obtain ⟨g1, rfl, _, _, d1, _⟩ := C1.out j y hy
      obtain ⟨g2, rfl, _, _, d2, _⟩ := C2.out j y hy
      have x1 := d1 j y hy
      have x2 := d2 j y hy
      have j0 : (0 : Int) ≤ (j : Int) := by omega
      have j1 : (j : Int) < (ys.length : Int) := by omega
      clear d1 d2 hy
      go_wp2_with fail
      go_quiet (fail)
      go_wp2
      go_roundw
      case rel => exact ⟨j + 1, _, by omega, by go_num, rfl⟩
      case measure => simp [intOf]; omega
    · obtain rfl : j = ys.length := by omega
      go_wp2
      go_ret
      exact ⟨rfl, below_drewN _ _⟩
end Go.Proofs.YthmhehehomieiaaGreat

/- Contract of class.Round. -/
namespace Go.Proofs.YthmhehehomieiaaGreat
open Go.RowKit

set_option maxHeartbeats 1000000 in
theorem round_any (n : Int) (w : World) :
    Calls Tryz.prog 154 #[.int .i64 n] w fun e w' => e = .returned (.int .i64 (roundI n)) ∧ w = w' := by
  go_enter Tryz.func154, Tryz.ntmps154
  go_wp2_with fail
  go_loopw [3] (fun s wr => ∃ (k : Nat) (h : Int), s = .int .i64 (2 * h) ∧ Far k (2 * h) ∧ roundI n = rnd k (2 * h) n ∧ w = wr) (fun s _ => (1099511627776 - intOf s).toNat)
  case atStart => exact ⟨38, 2, rfl, far_start, rfl, rfl⟩
  case round =>
    obtain ⟨k, h, rfl, hf, hr, rfl⟩ := hrel
    have hq : (2 * h).tdiv 2 = h := Int.mul_tdiv_cancel_left h (by decide)
    have hd : (2 * h) / 2 = h := by omega
    cases k with
    | zero =>
      have hf : 2 * h = 1099511627776 := hf
      have HR := Lib.hid hr
      clear hr
      obtain rfl : h = 549755813888 := by omega
      go_wp2
      go_ret
      exact ⟨by rw [HR.out]; rfl, rfl⟩
    | succ k =>
      obtain ⟨f0, f1, f2, f3⟩ := hf
      have HR := Lib.hid hr
      have HF := Lib.hid f3
      clear hr f3
      by_cases h1 : n ≤ 2 * h
      · have E := Lib.hid (HR.out.trans (rnd_first h1))
        go_wp2
        go_ret
        exact ⟨by rw [E.out]; rfl, rfl⟩
      · by_cases h2 : n ≤ 2 * h + h
        · have E := Lib.hid (HR.out.trans (rnd_second h1 (by omega)))
          rw [hd] at E
          go_wp2
          go_ret
          exact ⟨by rw [E.out]; rfl, rfl⟩
        · have E := Lib.hid (HR.out.trans (rnd_more h1 (by omega)))
          go_wp2
          go_roundw
          case rel => exact ⟨k, 2 * h, by go_num, HF.out, E.out, by trivial⟩
          case measure => simp [intOf]; omega

end Go.Proofs.YthmhehehomieiaaGreat

/- Contracts of class.Cells, class.Pages and class.Large. -/
namespace Go.Proofs.YthmhehehomieiaaGreat
open Go.RowKit

def cellsI (p s : Int) : Int := if p < 1 ∨ s < 1 then 0 else p / s
def largeB (p w : Int) : Bool := decide (p.tdiv 2 < roundI w)

set_option maxHeartbeats 1000000 in
theorem cells_any (p s : Int) (w : World) (hp : p ≤ 9223372036854775807) :
    Calls Tryz.prog 170 #[.int .i64 p, .int .i64 s] w fun e w' => e = .returned (.int .i64 (cellsI p s)) ∧ w = w' := by
  by_cases h0 : p < 1
  · have E := Lib.hid (show cellsI p s = 0 from if_pos (Or.inl h0))
    go_enter Tryz.func170, Tryz.ntmps170
    go_wp2
    go_ret
    exact ⟨by rw [E.out]; rfl, rfl⟩
  · by_cases h1 : s < 1
    · have E := Lib.hid (show cellsI p s = 0 from if_pos (Or.inr h1))
      go_enter Tryz.func170, Tryz.ntmps170
      go_wp2
      go_ret
      exact ⟨by rw [E.out]; rfl, rfl⟩
    · have E := Lib.hid (show cellsI p s = p / s from if_neg (by omega))
      have hq : p.tdiv s = p / s := tdiv_of (by omega)
      have q0 : 0 ≤ p / s := Int.ediv_nonneg (by omega) (by omega)
      have q1 : p / s ≤ p := Int.ediv_le_self s (by omega)
      go_enter Tryz.func170, Tryz.ntmps170
      go_wp2
      go_ret
      exact ⟨by rw [E.out]; rfl, rfl⟩

set_option maxHeartbeats 1000000 in
theorem pages_any (p n : Int) (w : World) (hn : n ≤ 9223372036854775807) :
    Calls Tryz.prog 152 #[.int .i64 p, .int .i64 n] w fun e w' => e = .returned (.int .i64 (pagesI p n)) ∧ w = w' := by
  by_cases h0 : p < 1
  · have E := Lib.hid (show pagesI p n = 0 from if_pos (Or.inl h0))
    go_enter Tryz.func152, Tryz.ntmps152
    go_wp2
    go_ret
    exact ⟨by rw [E.out]; rfl, rfl⟩
  · by_cases h1 : n < 1
    · have E := Lib.hid (show pagesI p n = 0 from if_pos (Or.inr h1))
      go_enter Tryz.func152, Tryz.ntmps152
      go_wp2
      go_ret
      exact ⟨by rw [E.out]; rfl, rfl⟩
    · have E := Lib.hid (show pagesI p n = (n - 1) / p + 1 from if_neg (by omega))
      have hq : (n - 1).tdiv p = (n - 1) / p := tdiv_of (by omega)
      have q0 : 0 ≤ (n - 1) / p := Int.ediv_nonneg (by omega) (by omega)
      have q1 : (n - 1) / p ≤ n - 1 := Int.ediv_le_self p (by omega)
      go_enter Tryz.func152, Tryz.ntmps152
      go_wp2
      go_ret
      exact ⟨by rw [E.out]; rfl, rfl⟩

theorem tdiv2 (p : Int) (h0 : -9223372036854775808 ≤ p) (h1 : p ≤ 9223372036854775807) : -4611686018427387904 ≤ p.tdiv 2 ∧ p.tdiv 2 ≤ 4611686018427387903 := by
  rcases Int.lt_or_le p 0 with h | h
  · obtain ⟨q, rfl⟩ : ∃ q, p = - q := ⟨-p, by omega⟩
    rw [Int.neg_tdiv, tdiv_of (by omega)]
    omega
  · rw [tdiv_of h]
    omega

set_option maxHeartbeats 1000000 in
theorem large_any (p n : Int) (w : World) (h0 : -9223372036854775808 ≤ p) (h1 : p ≤ 9223372036854775807) :
    Calls Tryz.prog 150 #[.int .i64 p, .int .i64 n] w fun e w' => e = .returned (.bool (largeB p n)) ∧ w = w' := by
  have hh := tdiv2 p h0 h1
  obtain ⟨q, hq⟩ : ∃ q, p.tdiv 2 = q := ⟨_, rfl⟩
  rw [hq] at hh
  have E := Lib.hid (show largeB p n = decide (q < roundI n) from by rw [← hq]; rfl)
  go_enter Tryz.func150, Tryz.ntmps150
  go_wp2_with fail
  refine (round_any n w).mono ?_
  rintro e w1 ⟨rfl, rfl⟩
  go_wp2
  go_ret
  exact ⟨by rw [E.out]; rfl, rfl⟩
end Go.Proofs.YthmhehehomieiaaGreat

/- Contracts of the program's small functions (package mature: nearest, begin, all, has, holds) and of slices.Index and slices.Contains over flags. -/
namespace Go.Proofs.YthmhehehomieiaaGreat
open Go.RowKit

set_option maxHeartbeats 1000000 in
theorem nearest_any (n l m : Int) (w : World) (hlm : l ≤ m) :
    Calls Tryz.prog 108 #[.int .i64 n, .int .i64 l, .int .i64 m] w fun e w' => e = .returned (.int .i64 (cutI n l m)) ∧ w = w' := by
  by_cases h0 : n < l
  · have E := Lib.hid (show cutI n l m = l from if_pos h0)
    go_enter Tryz.func108, Tryz.ntmps108
    go_wp2
    go_ret
    refine ⟨?_, rfl⟩
    rw [E.out]
    congr 2
    repeat' split
    all_goals omega
  · by_cases h1 : m < n
    · have E := Lib.hid (show cutI n l m = m from by rw [cutI, if_neg h0, if_pos h1])
      go_enter Tryz.func108, Tryz.ntmps108
      go_wp2
      go_ret
      refine ⟨?_, rfl⟩
      rw [E.out]
      congr 2
      repeat' split
      all_goals omega
    · have E := Lib.hid (show cutI n l m = n from by rw [cutI, if_neg h0, if_neg h1])
      go_enter Tryz.func108, Tryz.ntmps108
      go_wp2
      go_ret
      refine ⟨?_, rfl⟩
      rw [E.out]
      congr 2
      repeat' split
      all_goals omega

/-- The program's space: its block. -/
def SpB (w : World) (b : Nat) (F G : Int) (pb N : Nat) : Prop := Blk w b #[.int .i64 F, .int .i64 G, .slice (some ⟨pb, 0, none⟩) N N] 161

theorem SpB.three {w : World} {b : Nat} {F G : Int} {pb N : Nat} (h : SpB w b F G pb N) :
    w.cell? ⟨b, 0, none⟩ = some (.int .i64 F) ∧ w.cell? ⟨b, 1, none⟩ = some (.int .i64 G) ∧ w.cell? ⟨b, 2, none⟩ = some (.slice (some ⟨pb, 0, none⟩) N N) ∧ (∀ i, w.frozen? ⟨b, i, none⟩ = false) :=
  ⟨Blk.cell h 0, Blk.cell h 1, Blk.cell h 2, Blk.frozen h⟩

theorem page_in {G i : Int} (g0 : 1 ≤ G) (g1 : G ≤ 256) (i0 : 0 ≤ i) (i1 : i ≤ 64) : 0 ≤ i * G ∧ i * G ≤ 16384 := by
  have h0 : 0 ≤ i * G := Int.mul_nonneg i0 (by omega)
  have h1 := Int.mul_le_mul_of_nonneg_right i1 (show 0 ≤ G by omega)
  omega

set_option maxHeartbeats 1000000 in
theorem begin_any (b : Nat) (F G i : Int) (pb N : Nat) (w : World) (h : SpB w b F G pb N) (f0 : 0 ≤ F) (f1 : F ≤ 1048576) (g0 : 1 ≤ G) (g1 : G ≤ 256) (i0 : 0 ≤ i) (i1 : i ≤ 64) :
    Calls Tryz.prog 165 #[spP b, .int .i64 i] w fun e w' => e = .returned (.int .i64 (F + i * G)) ∧ ∃ m, w' = w.drewN m := by
  obtain ⟨c0, c1, c2, cf⟩ := h.three
  have hp := page_in g0 g1 i0 i1
  have hm : IntKind.i64.wrap (i * G) = i * G := IntWalk.i64_in _ (by omega)
  have hs : IntKind.i64.wrap (F + i * G) = F + i * G := IntWalk.i64_in _ (by omega)
  clear c2 h
  unfold spP
  go_enter Tryz.func165, Tryz.ntmps165
  go_wp2_with fail
  go_quiet (fail)
  go_wp2
  go_ret
  exact ⟨rfl, _, rfl⟩

set_option maxHeartbeats 1000000 in
theorem mAll_any (b : Nat) (F G : Int) (pb N : Nat) (w : World) (h : SpB w b F G pb N) :
    Calls Tryz.prog 112 #[spP b] w fun e w' => e = .returned (.slice (some ⟨pb, 0, none⟩) N N) ∧ w = w' := by
  obtain ⟨c0, c1, c2, cf⟩ := h.three
  clear c0 c1 h
  unfold spP
  go_enter Tryz.func112, Tryz.ntmps112
  go_wp2
  go_ret
  exact ⟨rfl, rfl⟩

def hasM (N : Nat) (n : Int) : Bool := decide (0 ≤ n) && decide (n < N)


def firstB (k : Int) : Bool := k == 1 || k == 2

set_option maxHeartbeats 1000000 in
theorem holds_any (k s : Int) (v : Value) (p : Bool) (w : World) :
    Calls Tryz.prog 164 #[.agg #[.int .i64 k, .int .i64 s, v, .bool p]] w fun e w' => e = .returned (.bool (firstB k)) ∧ Below w.heap.size w w' := by
  by_cases h1 : k = 1
  · subst h1
    go_enter Tryz.func164, Tryz.ntmps164
    go_wp2
    go_ret
    exact ⟨rfl, (Below.refl _ _).alloc (Nat.le_refl _) _⟩
  · go_enter Tryz.func164, Tryz.ntmps164
    go_wp2
    go_ret
    exact ⟨rfl, (Below.refl _ _).alloc (Nat.le_refl _) _⟩

/-- Where the first flag is that is v; below 0: nowhere. -/
def idxI (us : List Bool) (v : Bool) : Int := match us.findIdx? (fun x => v == x) with
  | some i => i
  | none => -1

set_option maxHeartbeats 1000000 in
theorem index_any (u : Nat) (us : List Bool) (v : Bool) (w : World) (h : Blk w u (us.map Value.bool).toArray 4) (few : us.length ≤ 256) :
    Calls Tryz.prog 171 #[.slice (some ⟨u, 0, none⟩) us.length us.length, .bool v] w fun e w' => e = .returned (.int .i64 (idxI us v)) ∧ w = w' := by
  have HH := Lib.hid h
  have cf := h.frozen
  clear h
  go_enter Tryz.func171, Tryz.ntmps171
  go_wp2_with fail
  go_loopw [8] (fun s wr => ∃ j : Nat, j ≤ us.length ∧ s = .int .i64 j ∧ Hid (∀ k x, k < j → us[k]? = some x → (v == x) = false) ∧ w = wr) (fun s _ => us.length - (intOf s).toNat)
  case atStart => exact ⟨0, Nat.zero_le _, rfl, Lib.hid (fun k c hk => by omega), rfl⟩
  case round =>
    obtain ⟨j, hj, rfl, HT, rfl⟩ := hrel
    by_cases hlt : j < us.length
    · obtain ⟨x, hx⟩ : ∃ x, us[j]? = some x := ⟨_, List.getElem?_eq_getElem hlt⟩
      have c0 := HH.out.bools hx
      have HX := Lib.hid hx
      clear hx
      cases e : (v == x)
      · have N1 := Lib.hid (show ∀ k y, k < j + 1 → us[k]? = some y → (v == y) = false from fun k y hk hy => by
          by_cases ek : k = j
          · subst ek
            obtain rfl : x = y := by have := HX.out.symm.trans hy; simpa using this
            exact e
          · exact HT.out k y (by omega) hy)
        have ed : decide (v = x) = false := by cases v <;> cases x <;> simp_all
        go_wp2
        go_roundw
        case rel => exact ⟨j + 1, by omega, by go_num, N1.out, by trivial⟩
        case measure => simp [intOf]; omega
      · have hit := Lib.hid (show idxI us v = j from by
          have : us.findIdx? (fun x => v == x) = some j := by
            rw [List.findIdx?_eq_some_iff_getElem]
            refine ⟨hlt, ?_, fun k hk => ?_⟩
            · have e2 : us[j] = x := by have := HX.out; rw [List.getElem?_eq_getElem hlt] at this; simpa using this
              rw [e2]; exact e
            · rw [HT.out k _ hk (List.getElem?_eq_getElem (by omega))]; exact Bool.false_ne_true
          rw [idxI, this])
        have ed : decide (v = x) = true := by cases v <;> cases x <;> simp_all
        go_wp2
        go_ret
        exact ⟨by rw [hit.out]; rfl, rfl⟩
    · obtain rfl : j = us.length := by omega
      have hit := Lib.hid (show idxI us v = -1 from by
        have : us.findIdx? (fun x => v == x) = none := by
          rw [List.findIdx?_eq_none_iff]
          intro x hx
          obtain ⟨k, hk, rfl⟩ := List.getElem_of_mem hx
          exact HT.out k _ hk (List.getElem?_eq_getElem hk)
        rw [idxI, this])
      go_wp2
      go_ret
      exact ⟨by rw [hit.out]; rfl, rfl⟩

theorem idxI_cases (us : List Bool) (v : Bool) : (∃ j : Nat, idxI us v = j ∧ us[j]? = some v ∧ ∀ i : Nat, i < j → us[i]? ≠ some v) ∨ (idxI us v = -1 ∧ v ∉ us) := by
  unfold idxI
  cases h : us.findIdx? (fun x => v == x) with
  | none =>
    rw [List.findIdx?_eq_none_iff] at h
    exact Or.inr ⟨rfl, fun hm => by have := h v hm; simp at this⟩
  | some i =>
    obtain ⟨hi, hp, hn⟩ := List.findIdx?_eq_some_iff_getElem.1 h
    refine Or.inl ⟨i, rfl, ?_, fun k hk e => ?_⟩
    · have : v = us[i] := by simpa using hp
      rw [List.getElem?_eq_getElem hi, ← this]
    · have h1 := hn k hk
      rw [List.getElem?_eq_getElem (by omega)] at e
      have : us[k] = v := by simpa using e
      rw [this] at h1
      simp at h1

def hasV (us : List Bool) (v : Bool) : Bool := decide (v ∈ us)

set_option maxHeartbeats 1000000 in
theorem contains_any (u : Nat) (us : List Bool) (v : Bool) (w : World) (h : Blk w u (us.map Value.bool).toArray 4) (few : us.length ≤ 256) :
    Calls Tryz.prog 176 #[.slice (some ⟨u, 0, none⟩) us.length us.length, .bool v] w fun e w' => e = .returned (.bool (hasV us v)) ∧ w = w' := by
  have hI := index_any u us v w h few
  rcases idxI_cases us v with ⟨j, e1, e2, _⟩ | ⟨e1, e2⟩
  · rw [e1] at hI
    have HI := Lib.hid hI
    have E := Lib.hid (show hasV us v = true from decide_eq_true (List.mem_of_getElem? e2))
    clear hI h e1 e2
    go_enter Tryz.func176, Tryz.ntmps176
    go_wp2_with fail
    refine HI.out.mono ?_
    rintro e w1 ⟨rfl, rfl⟩
    go_wp2
    go_ret
    exact ⟨by rw [E.out]; rfl, rfl⟩
  · rw [e1] at hI
    have HI := Lib.hid hI
    have E := Lib.hid (show hasV us v = false from decide_eq_false e2)
    clear hI h e1 e2
    go_enter Tryz.func176, Tryz.ntmps176
    go_wp2_with fail
    refine HI.out.mono ?_
    rintro e w1 ⟨rfl, rfl⟩
    go_wp2
    go_ret
    exact ⟨by rw [E.out]; rfl, rfl⟩
end Go.Proofs.YthmhehehomieiaaGreat

/- The program's space as it lies in memory: a block of its own, a block of its pages' states, a block of flags for each page that has cells. -/
namespace Go.Proofs.YthmhehehomieiaaGreat
open Go.RowKit

def Pg.kind : Pg → Int
  | .free => 0
  | .blk _ _ => 1
  | .big _ => 2
  | .rest => 3

def Pg.size (G : Int) : Pg → Int
  | .free => 0
  | .blk s _ => s
  | .big c => c * G
  | .rest => 0

def Pg.flags : Pg → List Bool
  | .blk _ us => us
  | .big _ => [true]
  | _ => []

def Pg.adr (u : Nat) (x : Pg) : Option Addr := if x.first then some ⟨u, 0, none⟩ else none

def Pg.row (u : Nat) (x : Pg) : Value := .slice (x.adr u) x.flags.length x.flags.length

def stV (G : Int) (x : Pg) (u : Nat) (p : Bool) : List Value := [.int .i64 x.kind, .int .i64 (x.size G), x.row u, .bool p]

def flat4 (n : Nat) (f : Nat → List Value) : List Value := (List.range n).flatMap f

theorem flat4_length {f : Nat → List Value} (hf : ∀ i, (f i).length = 4) (n : Nat) : (flat4 n f).length = n * 4 := by
  unfold flat4
  induction n with
  | zero => rfl
  | succ n ih => rw [List.range_succ, List.flatMap_append, List.length_append, ih, List.flatMap_cons, List.flatMap_nil, List.append_nil, hf]; omega

theorem flat4_at {f : Nat → List Value} (hf : ∀ i, (f i).length = 4) {n i j : Nat} (hi : i < n) (hj : j < 4) : (flat4 n f)[i * 4 + j]? = (f i)[j]? := by
  induction n with
  | zero => omega
  | succ n ih =>
    have hl := flat4_length hf n
    have e : flat4 (n + 1) f = flat4 n f ++ f n := by simp [flat4, List.range_succ]
    rw [e]
    by_cases c : i < n
    · rw [List.getElem?_append_left (by omega)]
      exact ih c
    · obtain rfl : i = n := by omega
      rw [List.getElem?_append_right (by omega)]
      congr 1
      omega

theorem flat4_ext {f : Nat → List Value} (hf : ∀ i, (f i).length = 4) {n : Nat} {L : List Value} (hl : L.length = n * 4) (h : ∀ i j, i < n → j < 4 → L[i * 4 + j]? = (f i)[j]?) : L = flat4 n f := by
  apply List.ext_getElem?
  intro k
  by_cases hk : k < n * 4
  · have e : k = (k / 4) * 4 + k % 4 := by omega
    rw [e, h _ _ (by omega) (by omega), flat4_at hf (by omega) (by omega)]
  · rw [List.getElem?_eq_none (by omega), List.getElem?_eq_none (by rw [flat4_length hf]; omega)]

def stF (G : Int) (pgs : List Pg) (ub : Nat → Nat) (ps : List Bool) (i : Nat) : List Value := stV G (pgs.getD i .free) (ub i) (ps.getD i false)

theorem stF_four (G : Int) (pgs : List Pg) (ub : Nat → Nat) (ps : List Bool) (i : Nat) : (stF G pgs ub ps i).length = 4 := rfl

/-- The program's space lies in block b, its pages' states in block pb, the flags of page i in block ub i. -/
structure IsSp (w : World) (b pb : Nat) (ub : Nat → Nat) (F G : Int) (pgs : List Pg) (ps : List Bool) : Prop where
  sp : SpB w b F G pb pgs.length
  pg : Blk w pb (flat4 pgs.length (stF G pgs ub ps)).toArray 166
  fl : ∀ (i : Nat) (x : Pg), pgs[i]? = some x → x.first = true → Blk w (ub i) (x.flags.map Value.bool).toArray 4
  inj : ∀ (i j : Nat) (x y : Pg), pgs[i]? = some x → pgs[j]? = some y → x.first = true → y.first = true → ub i = ub j → i = j
  pend : ∀ i : Nat, ps[i]? = some true → ∃ x : Pg, pgs[i]? = some x ∧ x.first = true
  wf : WF G pgs
  len : pgs.length = ps.length
  f0 : 0 ≤ F
  f1 : F ≤ 1048576
  g0 : 1 ≤ G
  g1 : G ≤ 256
  p1 : ps.length ≤ 64

/-- Its own blocks. -/
def SpS (b pb : Nat) (ub : Nat → Nat) (pgs : List Pg) (k : Nat) : Prop := k = b ∨ k = pb ∨ ∃ (i : Nat) (x : Pg), pgs[i]? = some x ∧ x.first = true ∧ k = ub i

section
variable {w w' : World} {b pb : Nat} {ub : Nat → Nat} {F G : Int} {pgs : List Pg} {ps : List Bool}

theorem IsSp.lt (h : IsSp w b pb ub F G pgs ps) (k : Nat) (hk : SpS b pb ub pgs k) : k < w.heap.size := by
  rcases hk with rfl | rfl | ⟨i, x, hx, hf, rfl⟩
  · exact Blk.lt h.sp
  · exact h.pg.lt
  · exact (h.fl i x hx hf).lt

theorem IsSp.stay (h : IsSp w b pb ub F G pgs ps) (hb : ∀ k, SpS b pb ub pgs k → w'.heap[k]? = w.heap[k]?) : IsSp w' b pb ub F G pgs ps :=
  { h with
    sp := (hb b (Or.inl rfl)).trans h.sp
    pg := (hb pb (Or.inr (Or.inl rfl))).trans h.pg
    fl := fun i x hx hf => (hb (ub i) (Or.inr (Or.inr ⟨i, x, hx, hf, rfl⟩))).trans (h.fl i x hx hf) }

theorem IsSp.keep (h : IsSp w b pb ub F G pgs ps) (k : Below w.heap.size w w') : IsSp w' b pb ub F G pgs ps := h.stay fun i hi => k.block i (h.lt i hi)

theorem IsSp.at_ (h : IsSp w b pb ub F G pgs ps) {i : Nat} {x : Pg} (hx : pgs[i]? = some x) :
    ∃ p, ps[i]? = some p ∧ w.cell? ⟨pb, i * 4, none⟩ = some (.int .i64 x.kind) ∧ w.cell? ⟨pb, i * 4 + 1, none⟩ = some (.int .i64 (x.size G)) ∧ w.cell? ⟨pb, i * 4 + 2, none⟩ = some (.slice (x.adr (ub i)) x.flags.length x.flags.length) ∧ w.cell? ⟨pb, i * 4 + 3, none⟩ = some (.bool p) ∧ (∀ k, w.frozen? ⟨pb, k, none⟩ = false) := by
  have hi := (List.getElem?_eq_some_iff.1 hx).1
  have hp : ps[i]? = some (ps[i]'(by have := h.len; omega)) := List.getElem?_eq_getElem (by have := h.len; omega)
  have hs : stF G pgs ub ps i = stV G x (ub i) (ps[i]'(by have := h.len; omega)) := by
    unfold stF
    rw [List.getD_eq_getElem?_getD, hx, List.getD_eq_getElem?_getD, hp]
    rfl
  have cell : ∀ j, j < 4 → w.cell? ⟨pb, i * 4 + j, none⟩ = (stV G x (ub i) (ps[i]'(by have := h.len; omega)))[j]? := fun j hj => by
    rw [h.pg.cell, List.getElem?_toArray, flat4_at (stF_four G pgs ub ps) hi hj, hs]
  exact ⟨_, hp, cell 0 (by omega), cell 1 (by omega), cell 2 (by omega), cell 3 (by omega), h.pg.frozen⟩

/-- A page's numbers are small. -/
theorem IsSp.small (h : IsSp w b pb ub F G pgs ps) {i : Nat} {x : Pg} (hx : pgs[i]? = some x) : 0 ≤ x.kind ∧ x.kind ≤ 3 ∧ 0 ≤ x.size G ∧ x.size G ≤ 16384 ∧ x.flags.length ≤ 64 ∧ i < 64 := by
  have hi := (List.getElem?_eq_some_iff.1 hx).1
  have hl := h.len
  have hp := h.p1
  have g0 := h.g0
  have g1 := h.g1
  cases x with
  | free => exact ⟨show (0 : Int) ≤ 0 by decide, show (0 : Int) ≤ 3 by decide, Int.le_refl _, show (0 : Int) ≤ 16384 by decide, show 0 ≤ 64 by decide, by omega⟩
  | rest => exact ⟨show (0 : Int) ≤ 3 by decide, show (3 : Int) ≤ 3 by decide, Int.le_refl _, show (0 : Int) ≤ 16384 by decide, show 0 ≤ 64 by decide, by omega⟩
  | big c =>
    obtain ⟨c1, c2, _⟩ := h.wf.big i c hx
    have := page_in (G := G) (i := c) g0 g1 (by omega) (by omega)
    exact ⟨show (0 : Int) ≤ 2 by decide, show (2 : Int) ≤ 3 by decide, this.1, this.2, show 1 ≤ 64 by decide, by omega⟩
  | blk s us =>
    obtain ⟨s0, s1, hu, _⟩ := h.wf.blk i s us hx
    have q : G / s ≤ G / 4 := by
      refine Int.le_ediv_of_mul_le (by omega) ?_
      have h1 := Int.mul_le_mul_of_nonneg_left s0 (show 0 ≤ G / s by omega)
      have h2 := Int.ediv_mul_le G (show s ≠ 0 by omega)
      omega
    refine ⟨show (0 : Int) ≤ 1 by decide, show (1 : Int) ≤ 3 by decide, ?_, ?_, ?_, by omega⟩
    · show 0 ≤ s; omega
    · show s ≤ 16384; omega
    · show us.length ≤ 64; omega
end
end Go.Proofs.YthmhehehomieiaaGreat

/- Of pages and cells, of numbers and lists alone: what the program's loops go over. -/
namespace Go.Proofs.YthmhehehomieiaaGreat

def Pg.isBig : Pg → Bool
  | .big _ => true
  | _ => false

/-- Cell j of page i. -/
def Pg.cell (F G : Int) (i : Nat) (x : Pg) (j : Nat) : Rc := ⟨F + i * G + j * x.size G, x.size G, x.flags.getD j false, x.isBig⟩

theorem Pg.cells_eq (F G : Int) (i : Nat) (x : Pg) : x.cells F G i = (List.range x.flags.length).map (x.cell F G i) := by
  cases x with
  | free => rfl
  | rest => rfl
  | big c => simp [Pg.cells, Pg.flags, Pg.cell, Pg.size, Pg.isBig, List.range_succ]
  | blk s us => rfl

theorem Pg.cells_length (F G : Int) (i : Nat) (x : Pg) : (x.cells F G i).length = x.flags.length := by rw [Pg.cells_eq]; simp

theorem Pg.cells_at (F G : Int) (i : Nat) (x : Pg) {j : Nat} (hj : j < x.flags.length) : (x.cells F G i)[j]? = some (x.cell F G i j) := by
  rw [Pg.cells_eq, List.getElem?_map, List.getElem?_range hj]; rfl

theorem Pg.mem_cells {F G : Int} {i : Nat} {x : Pg} {c : Rc} : c ∈ x.cells F G i ↔ ∃ j : Nat, j < x.flags.length ∧ c = x.cell F G i j := by
  rw [Pg.cells_eq, List.mem_map]
  constructor
  · rintro ⟨j, hj, rfl⟩; exact ⟨j, List.mem_range.1 hj, rfl⟩
  · rintro ⟨j, hj, rfl⟩; exact ⟨j, List.mem_range.2 hj, rfl⟩

theorem cellsP_take (F G : Int) {pgs : List Pg} {k : Nat} {x : Pg} (hx : pgs[k]? = some x) : cellsP F G (pgs.take (k + 1)) = cellsP F G (pgs.take k) ++ x.cells F G k := by
  have hk := (List.getElem?_eq_some_iff.1 hx).1
  unfold cellsP
  rw [List.length_take, List.length_take, Nat.min_eq_left (by omega), Nat.min_eq_left (by omega), List.range_succ, List.flatMap_append, List.flatMap_cons, List.flatMap_nil, List.append_nil]
  congr 1
  · apply flatMap_ext
    intro i hi
    have := List.mem_range.1 hi
    rw [List.getD_eq_getElem?_getD, List.getD_eq_getElem?_getD, List.getElem?_take_of_lt (by omega), List.getElem?_take_of_lt (by omega)]
  · rw [List.getD_eq_getElem?_getD, List.getElem?_take_of_lt (by omega), hx]
    rfl

theorem usedI_append (xs ys : List Rc) : usedI (xs ++ ys) = usedI xs + usedI ys := by
  induction xs with
  | nil => simp [usedI]
  | cons c xs ih => simp only [List.cons_append, usedI, ih]; omega

theorem starts_append (f t : Int) (xs ys : List Rc) : ((xs ++ ys).filter (inR f t)).map Rc.pos = (xs.filter (inR f t)).map Rc.pos ++ (ys.filter (inR f t)).map Rc.pos := by
  rw [List.filter_append, List.map_append]

theorem kind_first (x : Pg) : firstB x.kind = x.first := by cases x <;> rfl

/-- What is in use and begins at n is a cell of the page that n is in. -/
theorem hit_page {F G n : Int} {pgs : List Pg} (g0 : 1 ≤ G) (wf : WF G pgs) {c : Rc} (hc : (cellsP F G pgs).find? (hitB n) = some c) :
    ∃ (i j : Nat) (x : Pg), pgs[i]? = some x ∧ j < x.flags.length ∧ c = x.cell F G i j ∧ n = F + i * G + j * x.size G ∧ x.flags[j]? = some true ∧ ofI F G n = i := by
  have hm := List.mem_of_find?_eq_some hc
  have hh := List.find?_some hc
  simp only [hitB, Bool.and_eq_true, decide_eq_true_eq] at hh
  obtain ⟨i, x, hx, hcx⟩ := mem_cellsP.1 hm
  have hp := (cell_pages g0 wf hx hcx).1
  obtain ⟨j, hj, rfl⟩ := Pg.mem_cells.1 hcx
  refine ⟨i, j, x, hx, hj, rfl, hh.1.symm, ?_, by rw [← hh.1]; exact hp⟩
  have h2 : x.flags.getD j false = true := hh.2
  rw [List.getD_eq_getElem?_getD, List.getElem?_eq_getElem hj] at h2
  rw [List.getElem?_eq_getElem hj]
  exact congrArg some h2

theorem hit_some {F G : Int} {pgs : List Pg} (g0 : 1 ≤ G) (wf : WF G pgs) {i j : Nat} {x : Pg} (hx : pgs[i]? = some x) (hj : x.flags[j]? = some true) :
    (cellsP F G pgs).find? (hitB (F + i * G + j * x.size G)) = some (x.cell F G i j) := by
  have hjl := (List.getElem?_eq_some_iff.1 hj).1
  have hm : x.cell F G i j ∈ cellsP F G pgs := mem_cellsP.2 ⟨i, x, hx, Pg.mem_cells.2 ⟨j, hjl, rfl⟩⟩
  have hu : (x.cell F G i j).used = true := by
    show x.flags.getD j false = true
    rw [List.getD_eq_getElem?_getD, hj]; rfl
  cases e : (cellsP F G pgs).find? (hitB (F + i * G + j * x.size G)) with
  | none =>
    rw [List.find?_eq_none] at e
    exact absurd (show hitB (F + i * G + j * x.size G) (x.cell F G i j) = true from by rw [hitB, hu, Bool.and_true]; exact decide_eq_true rfl) (e _ hm)
  | some c =>
    have hcm := List.mem_of_find?_eq_some e
    have hh := List.find?_some e
    simp only [hitB, Bool.and_eq_true, decide_eq_true_eq] at hh
    rw [pos_unique g0 wf hcm hm hh.1]

/-- A cell lies within its space. -/
theorem hit_in {F G n : Int} {pgs : List Pg} (g0 : 1 ≤ G) (wf : WF G pgs) {i j : Nat} {x : Pg} (hx : pgs[i]? = some x) (hj : j < x.flags.length) (hn : n = F + i * G + j * x.size G) :
    0 ≤ (j : Int) * x.size G ∧ (j : Int) * x.size G < G ∧ F + i * G ≤ n ∧ n < F + i * G + G := by
  have key : 0 ≤ (j : Int) * x.size G ∧ (j : Int) * x.size G < G := by
    cases x with
    | free => simp [Pg.flags] at hj
    | rest => simp [Pg.flags] at hj
    | big c =>
      simp only [Pg.flags, List.length_singleton] at hj
      obtain rfl : j = 0 := by omega
      simp; omega
    | blk s us =>
      obtain ⟨s0, s1, hl, _⟩ := wf.blk i s us hx
      have := in_page s0 hl (show j < us.length from hj)
      show 0 ≤ (j : Int) * s ∧ (j : Int) * s < G
      omega
  omega
end Go.Proofs.YthmhehehomieiaaGreat

/- Contracts of the program's Done and Pend. -/
namespace Go.Proofs.YthmhehehomieiaaGreat
open Go.RowKit

section
variable {w : World} {b pb : Nat} {ub : Nat → Nat} {F G : Int} {pgs : List Pg} {ps : List Bool}

theorem IsSp.b_ne (h : IsSp w b pb ub F G pgs ps) : b ≠ pb := Blk.ne_ h.sp h.pg (by decide)
theorem IsSp.f_ne (h : IsSp w b pb ub F G pgs ps) {i : Nat} {x : Pg} (hx : pgs[i]? = some x) (hf : x.first = true) : ub i ≠ pb := Blk.ne_ (h.fl i x hx hf) h.pg (by decide)
theorem IsSp.u_ne (h : IsSp w b pb ub F G pgs ps) {i : Nat} {x : Pg} (hx : pgs[i]? = some x) (hf : x.first = true) : b ≠ ub i := Blk.ne_ h.sp (h.fl i x hx hf) (by decide)

/-- A page's pending flag is set. -/
theorem IsSp.setPend (h : IsSp w b pb ub F G pgs ps) {i : Nat} {x : Pg} (hx : pgs[i]? = some x) (q : Bool) (hq : q = true → x.first = true) :
    IsSp (w.setCell ⟨pb, i * 4 + 3, none⟩ (.bool q)) b pb ub F G pgs (ps.set i q) := by
  have hi := (List.getElem?_eq_some_iff.1 hx).1
  have hl := h.len
  refine { h with sp := Blk.far h.sp h.b_ne _, pg := ?_, fl := fun k y hk hf => (h.fl k y hk hf).far (h.f_ne hk hf) _, pend := fun k hk => ?_, len := by rw [List.length_set]; exact h.len, p1 := by rw [List.length_set]; exact h.p1 }
  · have hb := h.pg.set_ (i * 4 + 3) (.bool q)
    have e : (flat4 pgs.length (stF G pgs ub ps)).set (i * 4 + 3) (.bool q) = flat4 pgs.length (stF G pgs ub (ps.set i q)) := by
      refine flat4_ext (stF_four G pgs ub (ps.set i q)) (by rw [List.length_set, flat4_length (stF_four G pgs ub ps)]) fun k j hk hj => ?_
      by_cases e1 : k = i
      · subst e1
        by_cases e2 : j = 3
        · subst e2
          rw [List.getElem?_set_self (by rw [flat4_length (stF_four G pgs ub ps)]; omega)]
          simp [stF, stV, List.getD_eq_getElem?_getD, show k < ps.length by omega]
        · rw [List.getElem?_set_ne (by omega), flat4_at (stF_four G pgs ub ps) hk hj]
          obtain rfl | rfl | rfl : j = 0 ∨ j = 1 ∨ j = 2 := by omega
          all_goals rfl
      · rw [List.getElem?_set_ne (by omega), flat4_at (stF_four G pgs ub ps) hk hj]
        unfold stF
        rw [List.getD_eq_getElem?_getD (l := ps.set i q), List.getElem?_set_ne (by omega), ← List.getD_eq_getElem?_getD]
    rw [← e]
    have e3 : (flat4 pgs.length (stF G pgs ub ps)).toArray.setIfInBounds (i * 4 + 3) (.bool q) = ((flat4 pgs.length (stF G pgs ub ps)).set (i * 4 + 3) (.bool q)).toArray := by
      apply Array.ext'
      simp
    rw [← e3]
    exact hb
  · by_cases e : k = i
    · subst e
      rw [List.getElem?_set_self (by omega)] at hk
      exact ⟨x, hx, hq (by simpa using hk)⟩
    · rw [List.getElem?_set_ne (by omega)] at hk
      exact h.pend k hk
end


def pendN (pgs : List Pg) (ps : List Bool) (k : Nat) : List Bool := (pgs.take k).map Pg.first ++ ps.drop k

theorem pendN_next {pgs : List Pg} {ps : List Bool} (hl : pgs.length = ps.length) {k : Nat} {x : Pg} (hx : pgs[k]? = some x) : (pendN pgs ps k).set k x.first = pendN pgs ps (k + 1) := by
  have hk := (List.getElem?_eq_some_iff.1 hx).1
  unfold pendN
  rw [take_snoc hx, List.map_append, List.map_singleton, List.drop_eq_getElem_cons (show k < ps.length by omega), List.append_assoc]
  rw [List.set_append_right _ _ (by rw [List.length_map, List.length_take]; omega)]
  congr 1
  rw [List.length_map, List.length_take, Nat.min_eq_left (by omega), Nat.sub_self]
  rfl

end Go.Proofs.YthmhehehomieiaaGreat

/- Contracts of the program's find and Size. -/
namespace Go.Proofs.YthmhehehomieiaaGreat
open Go.RowKit

/-- The page and the cell of what is in use and begins there. -/
def FindA (F G : Int) (pgs : List Pg) (n : Int) (u : Value) : Prop :=
  (∃ (p j : Nat) (x : Pg), pgs[p]? = some x ∧ x.first = true ∧ x.flags[j]? = some true ∧ n = F + p * G + j * x.size G ∧ u = .tuple #[.int .i64 p, .int .i64 j, .bool true]) ∨
  ((cellsP F G pgs).find? (hitB n) = none ∧ u = .tuple #[.int .i64 0, .int .i64 0, .bool false])

def FindR (F G : Int) (pgs : List Pg) (n : Int) (w : World) (e : Ending) (w' : World) : Prop := ∃ u, e = .returned u ∧ FindA F G pgs n u ∧ Below w.heap.size w w'

theorem find_none {F G n : Int} {pgs : List Pg} (g0 : 1 ≤ G) (wf : WF G pgs) {i : Nat} {x : Pg} (hi : ofI F G n = i) (hx : pgs[i]? = some x) (hno : ∀ j : Nat, x.flags[j]? = some true → n ≠ F + i * G + j * x.size G) :
    (cellsP F G pgs).find? (hitB n) = none := by
  cases e : (cellsP F G pgs).find? (hitB n) with
  | none => rfl
  | some c =>
    obtain ⟨i', j, y, hy, hj, _, hn, hf, hi'⟩ := hit_page g0 wf e
    obtain rfl : i' = i := by omega
    rw [hx] at hy
    cases hy
    exact absurd hn (hno j hf)

theorem find_out {F G n : Int} {pgs : List Pg} (g0 : 1 ≤ G) (wf : WF G pgs) (h : n < F ∨ pgs.length * G ≤ n - F) : (cellsP F G pgs).find? (hitB n) = none := by
  cases e : (cellsP F G pgs).find? (hitB n) with
  | none => rfl
  | some c =>
    obtain ⟨i, j, x, hx, hj, _, hn, hf, _⟩ := hit_page g0 wf e
    have hi := (List.getElem?_eq_some_iff.1 hx).1
    obtain ⟨k0, k1, k2, k3⟩ := hit_in g0 wf hx hj hn
    have p0 : (0 : Int) ≤ (i : Int) * G := Int.mul_nonneg (by omega) (by omega)
    have p1 := Int.mul_le_mul_of_nonneg_right (show (i : Int) + 1 ≤ pgs.length by omega) (show 0 ≤ G by omega)
    rw [Int.add_mul, Int.one_mul] at p1
    omega

theorem first_size {G : Int} {pgs : List Pg} (g0 : 1 ≤ G) (wf : WF G pgs) {i : Nat} {x : Pg} (hx : pgs[i]? = some x) (hf : x.first = true) : 1 ≤ x.size G := by
  cases x with
  | free => cases hf
  | rest => cases hf
  | big c =>
    have := (wf.big i c hx).1
    have h := Int.mul_le_mul_of_nonneg_right (show (1 : Int) ≤ c by omega) (show 0 ≤ G by omega)
    show 1 ≤ (c : Int) * G
    omega
  | blk s us =>
    have := (wf.blk i s us hx).1
    show 1 ≤ s
    omega

theorem quot_cell {a s : Int} {j j' : Nat} (s0 : 1 ≤ s) (hj : a / s = j) (h : a = j' * s) : j = j' := by
  rw [h, Int.mul_ediv_cancel _ (by omega)] at hj
  omega

theorem first_flags {x : Pg} (h : x.first = false) : x.flags = [] := by cases x <;> simp_all [Pg.first, Pg.flags]

theorem first_adr {x : Pg} (h : x.first = true) (u : Nat) : x.adr u = some ⟨u, 0, none⟩ := by unfold Pg.adr; rw [if_pos h]

/-- What is read behind the copy of a page's state. -/
structure Copied (W : World) (c b pb : Nat) (F G : Int) (N u : Nat) (i : Nat) (k s : Int) (us : List Bool) (p : Bool) : Prop where
  copy : Blk W c #[.int .i64 k, .int .i64 s, .slice (some ⟨u, 0, none⟩) us.length us.length, .bool p] 166
  fl : Blk W u (us.map Value.bool).toArray 4
  sp : SpB W b F G pb N

theorem Copied.keep {W W' : World} {c b pb : Nat} {F G : Int} {N u i : Nat} {k s : Int} {us : List Bool} {p : Bool} (h : Copied W c b pb F G N u i k s us p) (hb : Below W.heap.size W W') : Copied W' c b pb F G N u i k s us p :=
  ⟨h.copy.keep hb, h.fl.keep hb, Blk.keep h.sp hb⟩

theorem Copied.cells {W : World} {c b pb : Nat} {F G : Int} {N u i : Nat} {k s : Int} {us : List Bool} {p : Bool} (h : Copied W c b pb F G N u i k s us p) :
    W.cell? ⟨c, 0, none⟩ = some (.int .i64 k) ∧ W.cell? ⟨c, 1, none⟩ = some (.int .i64 s) ∧ W.cell? ⟨c, 2, none⟩ = some (.slice (some ⟨u, 0, none⟩) us.length us.length) ∧ (∀ t, W.frozen? ⟨c, t, none⟩ = false) ∧ (∀ t, W.frozen? ⟨u, t, none⟩ = false) :=
  ⟨h.copy.cell 0, h.copy.cell 1, h.copy.cell 2, h.copy.frozen, h.fl.frozen⟩

theorem Copied.begins {W : World} {c b pb : Nat} {F G : Int} {N u i : Nat} {k s : Int} {us : List Bool} {p : Bool} (h : Copied W c b pb F G N u i k s us p) (f0 : 0 ≤ F) (f1 : F ≤ 1048576) (g0 : 1 ≤ G) (g1 : G ≤ 256) (i1 : i ≤ 64) (m : Nat) :
    Calls Tryz.prog 165 #[.pointer (some ⟨b, 0, none⟩), .int .i64 i] (W.drewN m) fun e w' => e = .returned (.int .i64 (F + i * G)) ∧ ∃ n, w' = (W.drewN m).drewN n :=
  begin_any b F G i pb N (W.drewN m) (h.keep (below_drewN _ m)).sp f0 f1 g0 g1 (by omega) (by omega)

set_option maxHeartbeats 8000000 in
set_option maxRecDepth 100000 in
theorem mFind_any (b pb : Nat) (ub : Nat → Nat) (F G : Int) (pgs : List Pg) (ps : List Bool) (n : Int) (w : World) (h : IsSp w b pb ub F G pgs ps) (n0 : -9223372036854775808 ≤ n) (n1 : n ≤ 9223372036854775807) :
    Calls Tryz.prog 147 #[spP b, .int .i64 n] w (FindR F G pgs n w) := by
  have few := h.p1
  rw [← h.len] at few
  have f0 := h.f0
  have f1 := h.f1
  have g0 := h.g0
  have g1 := h.g1
  have wf := Lib.hid h.wf
  obtain ⟨c0, c1, c2, cf⟩ := h.sp.three
  have HH := Lib.hid h
  obtain ⟨N, hN⟩ : ∃ N, pgs.length = N := ⟨_, rfl⟩
  rw [hN] at few c2
  have HN := Lib.hid hN
  have hNG := page_in (G := G) (i := N) g0 g1 (by omega) (by omega)
  clear h hN
  unfold spP
  by_cases lo : n < F
  · have R := Lib.hid (show FindA F G pgs n (.tuple #[.int .i64 0, .int .i64 0, .bool false]) from Or.inr ⟨find_out g0 wf.out (Or.inl lo), rfl⟩)
    have lod : decide (n < F) = true := decide_eq_true lo
    go_enter Tryz.func147, Tryz.ntmps147
    go_wp2_with fail
    go_big_quiet (fail)
    go_wp2
    go_ret3
    exact ⟨_, rfl, R.out, below_drewN _ _⟩
  · have lod : decide (n < F) = false := decide_eq_false lo
    have hw1 : IntKind.i64.wrap (n - F) = n - F := IntWalk.i64_in _ (by omega)
    have hw2 : IntKind.i64.wrap (N * G) = N * G := IntWalk.i64_in _ (by omega)
    by_cases hi : N * G ≤ n - F
    · have R := Lib.hid (show FindA F G pgs n (.tuple #[.int .i64 0, .int .i64 0, .bool false]) from Or.inr ⟨find_out g0 wf.out (Or.inr (by rw [HN.out]; exact hi)), rfl⟩)
      have hid : decide (N * G ≤ n - F) = true := decide_eq_true hi
      go_enter Tryz.func147, Tryz.ntmps147
      go_wp2_with fail
      go_big_quiet (fail)
      go_wp2
      go_ret3
      exact ⟨_, rfl, R.out, below_drewN _ _⟩
    · have hid : decide (N * G ≤ n - F) = false := decide_eq_false hi
      have q0 : 0 ≤ (n - F) / G := Int.ediv_nonneg (by omega) (by omega)
      have q1 : (n - F) / G < N := Int.ediv_lt_of_lt_mul (by omega) (by omega)
      obtain ⟨i, ei⟩ : ∃ i : Nat, (n - F) / G = i := ⟨((n - F) / G).toNat, by omega⟩
      have hq : (n - F).tdiv G = (i : Int) := by rw [tdiv_of (by omega), ei]
      have i1 : (i : Int) < N := by omega
      have hof : Hid (ofI F G n = i) := Lib.hid hq
      have rem0 := Int.mul_ediv_add_emod (n - F) G
      have rem1 := Int.emod_nonneg (n - F) (show G ≠ 0 by omega)
      have rem2 := Int.emod_lt_of_pos (n - F) (show 0 < G by omega)
      rw [ei, Int.mul_comm] at rem0
      have iG := page_in (G := G) (i := i) g0 g1 (by omega) (by omega)
      have r0 : 0 ≤ n - (F + i * G) := by omega
      have r1 : n - (F + i * G) < G := by omega
      have nb : n ≤ 2000000 := by omega
      clear rem0 rem1 rem2 q0 q1 ei
      obtain ⟨x, hx⟩ : ∃ x, pgs[i]? = some x := ⟨_, List.getElem?_eq_getElem (by have := HN.out; omega)⟩
      obtain ⟨p, hp, _⟩ := HH.out.at_ hx
      have ce := fun (W : World) (hb : Below w.heap.size w W) => (show W.cell? ⟨b, 2, none⟩ = some (.slice (some ⟨pb, 0, none⟩) N N) ∧ (∀ t, W.frozen? ⟨b, t, none⟩ = false) ∧ W.cell? ⟨pb, i * 4, none⟩ = some (.int .i64 x.kind) ∧ W.cell? ⟨pb, i * 4 + 1, none⟩ = some (.int .i64 (x.size G)) ∧ W.cell? ⟨pb, i * 4 + 2, none⟩ = some (.slice (x.adr (ub i)) x.flags.length x.flags.length) ∧ W.cell? ⟨pb, i * 4 + 3, none⟩ = some (.bool p) ∧ (∀ t, W.frozen? ⟨pb, t, none⟩ = false) from by
        have k := HH.out.keep hb
        obtain ⟨p', hp', z0, z1, z2, z3, zf⟩ := k.at_ hx
        obtain rfl : p = p' := by rw [hp] at hp'; simpa using hp'
        exact ⟨by rw [← HN.out]; exact k.sp.three.2.2.1, k.sp.three.2.2.2, z0, z1, z2, z3, zf⟩)
      have HX := Lib.hid hx
      have HO := Lib.hid (fun W => holds_any x.kind (x.size G) (.slice (x.adr (ub i)) x.flags.length x.flags.length) p W)
      rw [kind_first] at HO
      cases ff : x.first
      · rw [ff] at HO
        have R := Lib.hid (show FindA F G pgs n (.tuple #[.int .i64 0, .int .i64 0, .bool false]) from Or.inr ⟨find_none g0 wf.out hof.out hx (fun j hj => by rw [first_flags ff] at hj; simp at hj), rfl⟩)
        have CE := Lib.hid ce
        clear hx hp ff ce
        go_enter Tryz.func147, Tryz.ntmps147
        go_wp2_with fail
        go_big_quiet (fail)
        go_wp2_with fail
        go_big_quiet (fail)
        generalize hW : (w.drewN _).drewN _ = W1
        have bw : Below w.heap.size w W1 := hW ▸ below_trans (below_drewN w _) (below_drewN _ _)
        obtain ⟨z, zf, d0, d1, d2, d3, df⟩ := CE.out W1 bw
        clear hw1 hw2 hW c0 c1 c2 cf
        go_wp2_with fail
        refine (HO.out _).mono ?_
        rintro e w1 ⟨rfl, b1⟩
        go_wp2
        go_ret3
        exact ⟨_, rfl, R.out, below_trans (bw.alloc bw.size _) b1⟩
      · rw [ff] at HO
        have s0 := first_size g0 wf.out hx ff
        have s1 := (HH.out.small hx).2.2.2.1
        have fz := (HH.out.small hx).2.2.2.2.1
        have hfl := Lib.hid (HH.out.fl i x hx ff)
        have ea := first_adr ff (ub i)
        rw [ea] at HO
        simp only [ea] at ce
        have FF := Lib.hid ff
        clear ea ff hx hp
        obtain ⟨s, es⟩ : ∃ s, x.size G = s := ⟨_, rfl⟩
        obtain ⟨us, eu⟩ : ∃ us, x.flags = us := ⟨_, rfl⟩
        obtain ⟨k, ek⟩ : ∃ k, x.kind = k := ⟨_, rfl⟩
        simp only [es, eu, ek] at ce
        rw [es] at HO s0 s1
        rw [eu] at HO hfl fz
        rw [ek] at HO
        have CE := Lib.hid ce
        clear ce
        have ES := Lib.hid es
        have EU := Lib.hid eu
        clear es eu ek
        have q0 : 0 ≤ (n - (F + i * G)) / s := Int.ediv_nonneg (by omega) (by omega)
        have q1 : (n - (F + i * G)) / s ≤ n - (F + i * G) := Int.ediv_le_self s (by omega)
        obtain ⟨j, ej⟩ : ∃ j : Nat, (n - (F + i * G)) / s = j := ⟨((n - (F + i * G)) / s).toNat, by omega⟩
        have hq2 : (n - (F + i * G)).tdiv s = (j : Int) := by rw [tdiv_of (by omega), ej]
        have hw3 : IntKind.i64.wrap (n - (F + i * G)) = n - (F + i * G) := IntWalk.i64_in _ (by omega)
        have EJ := Lib.hid ej
        have j0 : (0 : Int) ≤ j := by omega
        have j1 : (j : Int) ≤ 256 := by omega
        have js0 : (0 : Int) ≤ j * s := Int.mul_nonneg j0 (by omega)
        have js1 : (j : Int) * s ≤ n - (F + i * G) := by
          have := Int.ediv_mul_le (n - (F + i * G)) (show s ≠ 0 by omega)
          rwa [ej] at this
        clear ej q0 q1
        have none_ : (∀ t : Nat, us[t]? = some true → n ≠ F + i * G + t * s) → FindA F G pgs n (.tuple #[.int .i64 0, .int .i64 0, .bool false]) := fun hno =>
          Or.inr ⟨find_none g0 wf.out hof.out HX.out (by rw [EU.out, ES.out]; exact hno), rfl⟩
        have same : ∀ t : Nat, n = F + i * G + t * s → j = t := fun t ht => quot_cell s0 EJ.out (by omega)
        have NO := Lib.hid none_
        have SM := Lib.hid same
        clear none_ same
        have hw4 : IntKind.i64.wrap (j * s) = j * s := IntWalk.i64_in _ (by omega)
        have hw5 : IntKind.i64.wrap (F + i * G + j * s) = F + i * G + j * s := IntWalk.i64_in _ (by omega)
        by_cases jl : j < us.length
        · obtain ⟨y, hy⟩ : ∃ y, us[j]? = some y := ⟨_, List.getElem?_eq_getElem jl⟩
          have HY := Lib.hid hy
          have jd1 : decide ((us.length : Int) ≤ (j : Int)) = false := decide_eq_false (by omega)
          have jd2 : decide (us.length ≤ j) = false := decide_eq_false (by omega)
          have jl2 : (j : Int) < us.length := by omega
          clear hy
          go_enter Tryz.func147, Tryz.ntmps147
          go_wp2_with fail
          go_big_quiet (fail)
          go_wp2_with fail
          go_big_quiet (fail)
          generalize hW : (w.drewN _).drewN _ = W1
          have bw : Below w.heap.size w W1 := hW ▸ below_trans (below_drewN w _) (below_drewN _ _)
          obtain ⟨z, zf, d0, d1, d2, d3, df⟩ := CE.out W1 bw
          clear hw1 hw2 hW c0 c1 c2 cf
          go_wp2_with fail
          refine (HO.out _).mono ?_
          rintro e w1 ⟨rfl, b1⟩
          have bb : Below w.heap.size w w1 := below_trans (bw.alloc bw.size _) b1
          have cp : Copied w1 W1.heap.size b pb F G pgs.length (ub i) i k s us p := ⟨(Blk.new W1 _ _).keep b1, hfl.out.keep bb, (HH.out.keep bb).sp⟩
          have CP := Lib.hid cp
          obtain ⟨e0, e1, e2, e3, e5⟩ := cp.cells
          have e4 := cp.fl.bools HY.out
          have KO := Lib.hid (cp.begins f0 f1 g0 g1 (by omega))
          have BB := Lib.hid bb
          clear b1 bb cp d0 d1 d2 d3 df z zf
          cases y
          · have R := Lib.hid (NO.out (fun t ht hn => by have := SM.out t hn; subst this; rw [HY.out] at ht; cases ht))
            go_wp2_with fail
            go_big_quiet ((go_at_call 165; refine Calls.quiet_of (KO.out _)))
            generalize hW2 : w1.drewN _ = W2
            have b2 : Below w1.heap.size w1 W2 := hW2 ▸ below_drewN w1 _
            have cp2 := CP.out.keep b2
            obtain ⟨z0, z1, z2, z3, z5⟩ := cp2.cells
            have z4 := cp2.fl.bools HY.out
            have KO2 := Lib.hid (cp2.begins f0 f1 g0 g1 (by omega))
            have BB2 := Lib.hid (below_trans BB.out b2)
            clear hW2 b2 cp2 KO e0 e1 e2 e3 e5 e4
            go_wp2_with fail
            go_big_quiet ((go_at_call 165; refine Calls.quiet_of (KO2.out _)))
            go_wp2
            go_ret3
            exact ⟨_, rfl, R.out, below_trans BB2.out (below_drewN _ _)⟩
          · by_cases en : n = F + i * G + j * s
            · have R := Lib.hid (show FindA F G pgs n (.tuple #[.int .i64 i, .int .i64 j, .bool true]) from Or.inl ⟨i, j, x, HX.out, FF.out, by rw [EU.out]; exact HY.out, by rw [ES.out]; exact en, rfl⟩)
              have ed : (n != F + i * G + j * s) = false := by simpa using en
              have ed2 : (n == F + i * G + j * s) = true := by simpa using en
              clear en
              go_wp2_with fail
              go_big_quiet ((go_at_call 165; refine Calls.quiet_of (KO.out _)))
              generalize hW2 : w1.drewN _ = W2
              have b2 : Below w1.heap.size w1 W2 := hW2 ▸ below_drewN w1 _
              have cp2 := CP.out.keep b2
              obtain ⟨z0, z1, z2, z3, z5⟩ := cp2.cells
              have z4 := cp2.fl.bools HY.out
              have KO2 := Lib.hid (cp2.begins f0 f1 g0 g1 (by omega))
              have BB2 := Lib.hid (below_trans BB.out b2)
              clear hW2 b2 cp2 KO e0 e1 e2 e3 e5 e4
              go_wp2_with fail
              go_big_quiet ((go_at_call 165; refine Calls.quiet_of (KO2.out _)))
              go_wp2
              go_ret3
              exact ⟨_, rfl, R.out, below_trans BB2.out (below_drewN _ _)⟩
            · have R := Lib.hid (NO.out (fun t ht hn => by have := SM.out t hn; subst this; exact en hn))
              have ed : (n != F + i * G + j * s) = true := by simpa using en
              have ed2 : (n == F + i * G + j * s) = false := by simpa using en
              go_wp2_with fail
              go_big_quiet ((go_at_call 165; refine Calls.quiet_of (KO.out _)))
              generalize hW2 : w1.drewN _ = W2
              have b2 : Below w1.heap.size w1 W2 := hW2 ▸ below_drewN w1 _
              have cp2 := CP.out.keep b2
              obtain ⟨z0, z1, z2, z3, z5⟩ := cp2.cells
              have z4 := cp2.fl.bools HY.out
              have KO2 := Lib.hid (cp2.begins f0 f1 g0 g1 (by omega))
              have BB2 := Lib.hid (below_trans BB.out b2)
              clear hW2 b2 cp2 KO e0 e1 e2 e3 e5 e4
              go_wp2_with fail
              go_big_quiet ((go_at_call 165; refine Calls.quiet_of (KO2.out _)))
              go_wp2
              go_ret3
              exact ⟨_, rfl, R.out, below_trans BB2.out (below_drewN _ _)⟩
        · have R := Lib.hid (NO.out (fun t ht hn => by have := SM.out t hn; subst this; rw [List.getElem?_eq_none (by omega)] at ht; cases ht))
          have jd1 : decide ((us.length : Int) ≤ (j : Int)) = true := decide_eq_true (by omega)
          have jd2 : decide (us.length ≤ j) = true := decide_eq_true (by omega)
          go_enter Tryz.func147, Tryz.ntmps147
          go_wp2_with fail
          go_big_quiet (fail)
          go_wp2_with fail
          go_big_quiet (fail)
          generalize hW : (w.drewN _).drewN _ = W1
          have bw : Below w.heap.size w W1 := hW ▸ below_trans (below_drewN w _) (below_drewN _ _)
          obtain ⟨z, zf, d0, d1, d2, d3, df⟩ := CE.out W1 bw
          clear hw1 hw2 hW c0 c1 c2 cf
          go_wp2_with fail
          refine (HO.out _).mono ?_
          rintro e w1 ⟨rfl, b1⟩
          have bb : Below w.heap.size w w1 := below_trans (bw.alloc bw.size _) b1
          have cp : Copied w1 W1.heap.size b pb F G pgs.length (ub i) i k s us p := ⟨(Blk.new W1 _ _).keep b1, hfl.out.keep bb, (HH.out.keep bb).sp⟩
          have CP := Lib.hid cp
          obtain ⟨e0, e1, e2, e3, e5⟩ := cp.cells
          have KO := Lib.hid (cp.begins f0 f1 g0 g1 (by omega))
          have BB := Lib.hid bb
          clear b1 bb cp d0 d1 d2 d3 df z zf
          go_wp2_with fail
          go_big_quiet ((go_at_call 165; refine Calls.quiet_of (KO.out _)))
          generalize hW2 : w1.drewN _ = W2
          have b2 : Below w1.heap.size w1 W2 := hW2 ▸ below_drewN w1 _
          have cp2 := CP.out.keep b2
          obtain ⟨z0, z1, z2, z3, z5⟩ := cp2.cells
          have KO2 := Lib.hid (cp2.begins f0 f1 g0 g1 (by omega))
          have BB2 := Lib.hid (below_trans BB.out b2)
          clear hW2 b2 cp2 KO e0 e1 e2 e3 e5
          go_wp2_with fail
          go_big_quiet ((go_at_call 165; refine Calls.quiet_of (KO2.out _)))
          go_wp2
          go_ret3
          exact ⟨_, rfl, R.out, below_trans BB2.out (below_drewN _ _)⟩
end Go.Proofs.YthmhehehomieiaaGreat

/- Contracts of the program's Size, Pending, Page and Used. -/
namespace Go.Proofs.YthmhehehomieiaaGreat
open Go.RowKit

set_option maxHeartbeats 4000000 in
theorem mSize_any (b pb : Nat) (ub : Nat → Nat) (F G : Int) (pgs : List Pg) (ps : List Bool) (n : Int) (w : World) (h : IsSp w b pb ub F G pgs ps) (n0 : -9223372036854775808 ≤ n) (n1 : n ≤ 9223372036854775807) :
    Calls Tryz.prog 116 #[spP b, .int .i64 n] w fun e w' => e = .returned (sizeV (cellsP F G pgs) n) ∧ Below w.heap.size w w' := by
  have HF := Lib.hid (mFind_any b pb ub F G pgs ps n w h n0 n1)
  have HH := Lib.hid h
  clear h
  unfold spP at HF ⊢
  go_enter Tryz.func116, Tryz.ntmps116
  go_wp2_with fail
  refine HF.out.mono ?_
  rintro e w1 ⟨u, rfl, hA, b1⟩
  rcases hA with ⟨p, j, x, hx, ff, hj, hn, rfl⟩ | ⟨hn, rfl⟩
  · have E := Lib.hid (show sizeV (cellsP F G pgs) n = .tuple #[.int .i64 (x.size G), .bool true] from by rw [hn, sizeV, hit_some HH.out.g0 HH.out.wf hx hj]; rfl)
    have hi := HH.out.keep b1
    obtain ⟨c0, c1, c2, cf⟩ := hi.sp.three
    obtain ⟨p', _, d0, d1, d2, d3, df⟩ := hi.at_ hx
    have lt := (List.getElem?_eq_some_iff.1 hx).1
    clear c0 c1 d0 d2 d3 hi hx hj hn ff
    go_wp2
    go_ret2
    exact ⟨by rw [E.out]; rfl, b1⟩
  · have E := Lib.hid (show sizeV (cellsP F G pgs) n = .tuple #[.int .i64 0, .bool false] from by rw [sizeV, hn])
    clear hn
    go_wp2
    go_ret2
    exact ⟨by rw [E.out]; rfl, b1⟩



/-- A flag of a page, as the loop reads it. -/
theorem IsSp.flag {w : World} {b pb : Nat} {ub : Nat → Nat} {F G : Int} {pgs : List Pg} {ps : List Bool} (h : IsSp w b pb ub F G pgs ps) {i j : Nat} {x : Pg} (hx : pgs[i]? = some x) (hj : j < x.flags.length) :
    ∃ y, x.flags[j]? = some y ∧ x.adr (ub i) = some ⟨ub i, 0, none⟩ ∧ w.cell? ⟨ub i, j, none⟩ = some (.bool y) ∧ (∀ k, w.frozen? ⟨ub i, k, none⟩ = false) := by
  have ff : x.first = true := by
    cases e : x.first with
    | true => rfl
    | false => rw [first_flags e] at hj; simp at hj
  have hb := h.fl i x hx ff
  exact ⟨x.flags[j], List.getElem?_eq_getElem hj, first_adr ff _, hb.bools (List.getElem?_eq_getElem hj), hb.frozen⟩

set_option maxHeartbeats 4000000 in
theorem mUsed_any (b pb : Nat) (ub : Nat → Nat) (F G : Int) (pgs : List Pg) (ps : List Bool) (w : World) (h : IsSp w b pb ub F G pgs ps) :
    Calls Tryz.prog 69 #[spP b] w fun e w' => e = .returned (.int .i64 (usedI (cellsP F G pgs))) ∧ Below w.heap.size w w' := by
  have few := h.p1
  rw [← h.len] at few
  have HH := Lib.hid h
  have HA := Lib.hid (mAll_any b F G pb pgs.length w h.sp)
  obtain ⟨N, hN⟩ : ∃ N, pgs.length = N := ⟨_, rfl⟩
  rw [hN] at HA few
  have HN := Lib.hid hN
  clear h hN
  unfold spP at HA ⊢
  go_enter Tryz.func69, Tryz.ntmps69
  go_wp2_with fail
  refine HA.out.mono ?_
  rintro e w1 ⟨rfl, rfl⟩
  go_wp2_with fail
  go_loopw [3, 11] (fun s s11 wr => ∃ (k : Nat) (q : Int), k ≤ N ∧ s11 = .int .i64 k ∧ s = .int .i64 q ∧ Hid (q = usedI (cellsP F G (pgs.take k))) ∧ 0 ≤ q ∧ q ≤ 1048576 * k ∧ Below w.heap.size w wr) (fun _ s11 _ => N - (intOf s11).toNat)
  case atStart => exact ⟨0, 0, Nat.zero_le _, rfl, rfl, Lib.hid (by rw [List.take_zero]; rfl), by omega, by omega, Below.refl _ _⟩
  case round =>
    obtain ⟨k, q, hk, rfl, rfl, HQ, q0, q1, bb⟩ := hrel
    by_cases hlt : k < N
    · obtain ⟨x, hx⟩ : ∃ x, pgs[k]? = some x := ⟨_, List.getElem?_eq_getElem (by have := HN.out; omega)⟩
      have hi := HH.out.keep bb
      obtain ⟨p, hp, d0, d1, d2, d3, df⟩ := hi.at_ hx
      obtain ⟨_, _, z0, z1, z2, _⟩ := hi.small hx
      have HX := Lib.hid hx
      clear hx hp
      have KI := Lib.hid (hi.keep ((Below.refl _ wr).alloc (Nat.le_refl _) (.cells #[.int .i64 x.kind, .int .i64 (x.size G), .slice (x.adr (ub k)) x.flags.length x.flags.length, .bool p] 166)))
      have BN := Lib.hid (bb.alloc bb.size (.cells #[.int .i64 x.kind, .int .i64 (x.size G), .slice (x.adr (ub k)) x.flags.length x.flags.length, .bool p] 166))
      clear hi
      go_wp2_with fail
      go_loopw [3, 18] (fun s s18 wr' => ∃ (j : Nat) (u : Int), j ≤ x.flags.length ∧ s18 = .int .i64 j ∧ s = .int .i64 (q + u) ∧ Hid (u = usedI ((x.cells F G k).take j)) ∧ 0 ≤ u ∧ u ≤ 16384 * j ∧ wr.alloc (.cells #[.int .i64 x.kind, .int .i64 (x.size G), .slice (x.adr (ub k)) x.flags.length x.flags.length, .bool p] 166) = wr') (fun _ s18 _ => x.flags.length - (intOf s18).toNat)
      case atStart => exact ⟨0, 0, Nat.zero_le _, rfl, by simp, Lib.hid (by rw [List.take_zero]; rfl), by omega, by omega, rfl⟩
      case round =>
        obtain ⟨j, u, hj, rfl, rfl, HU, u0, u1, rfl⟩ := hrel
        by_cases jlt : j < x.flags.length
        · obtain ⟨y, hy, ea, g0, gf⟩ := KI.out.flag HX.out jlt
          have HS := Lib.hid (show usedI ((x.cells F G k).take (j + 1)) = usedI ((x.cells F G k).take j) + (if y then x.size G else 0) from by
            rw [take_snoc (Pg.cells_at F G k x jlt), usedI_snoc]
            congr 1
            show (if x.flags.getD j false = true then x.size G else 0) = _
            rw [List.getD_eq_getElem?_getD, hy]
            rfl)
          clear hy
          rw [ea]
          rw [ea] at g0 gf
          clear ea
          cases y
          · go_wp2
            go_roundw
            case rel => exact ⟨j + 1, u, by omega, by go_num, rfl, Lib.hid (by rw [HS.out, HU.out]; simp), by omega, by omega, by trivial⟩
            case measure => simp [intOf]; omega
          · go_wp2
            go_roundw
            case rel => exact ⟨j + 1, u + x.size G, by omega, by go_num, by go_num, Lib.hid (by rw [HS.out, HU.out]; simp), by omega, by omega, by trivial⟩
            case measure => simp [intOf]; omega
        · obtain rfl : j = x.flags.length := by omega
          have HS := Lib.hid (show q + u = usedI (cellsP F G (pgs.take (k + 1))) from by
            rw [cellsP_take F G HX.out, usedI_append, HQ.out, HU.out, ← Pg.cells_length F G k x, List.take_length])
          go_wp2
          go_roundw
          case rel => exact ⟨k + 1, q + u, by omega, by go_num, rfl, HS, by omega, by omega, BN.out⟩
          case measure => simp [intOf]; omega
    · obtain rfl : k = N := by omega
      have E := Lib.hid (show usedI (cellsP F G pgs) = q from by rw [HQ.out, ← HN.out, List.take_length])
      go_wp2
      go_ret
      exact ⟨by rw [E.out]; rfl, bb⟩
end Go.Proofs.YthmhehehomieiaaGreat

/- How the program's space turns in memory when pages turn. -/
namespace Go.Proofs.YthmhehehomieiaaGreat
open Go.RowKit

def setF (f : Nat → List Value) (i : Nat) (vs : List Value) (k : Nat) : List Value := if k = i then vs else f k

theorem setF_four {f : Nat → List Value} (hf : ∀ i, (f i).length = 4) (i : Nat) {vs : List Value} (hv : vs.length = 4) (k : Nat) : (setF f i vs k).length = 4 := by unfold setF; split <;> simp [hv, hf]

theorem Blk.set4 {w : World} {pb N : Nat} {f : Nat → List Value} {T : TypeId} (hf : ∀ i, (f i).length = 4) (h : Blk w pb (flat4 N f).toArray T) (i : Nat) (hi : i < N) (v0 v1 v2 v3 : Value) :
    Blk ((((w.setCell ⟨pb, i * 4, none⟩ v0).setCell ⟨pb, i * 4 + 1, none⟩ v1).setCell ⟨pb, i * 4 + 2, none⟩ v2).setCell ⟨pb, i * 4 + 3, none⟩ v3) pb (flat4 N (setF f i [v0, v1, v2, v3])).toArray T := by
  have hb := (((h.set_ (i * 4) v0).set_ (i * 4 + 1) v1).set_ (i * 4 + 2) v2).set_ (i * 4 + 3) v3
  have e : ((((flat4 N f).toArray.setIfInBounds (i * 4) v0).setIfInBounds (i * 4 + 1) v1).setIfInBounds (i * 4 + 2) v2).setIfInBounds (i * 4 + 3) v3 = (flat4 N (setF f i [v0, v1, v2, v3])).toArray := by
    apply Array.ext'
    simp only [Array.toList_setIfInBounds]
    refine flat4_ext (setF_four hf i rfl) (by simp only [List.length_set, flat4_length hf]) fun k j hk hj => ?_
    have hl := flat4_length hf N
    by_cases ek : k = i
    · subst ek
      rw [show setF f k [v0, v1, v2, v3] k = [v0, v1, v2, v3] from if_pos rfl]
      obtain rfl | rfl | rfl | rfl : j = 0 ∨ j = 1 ∨ j = 2 ∨ j = 3 := by omega
      · rw [List.getElem?_set_ne (by omega), List.getElem?_set_ne (by omega), List.getElem?_set_ne (by omega), Nat.add_zero, List.getElem?_set_self (by omega)]; rfl
      · rw [List.getElem?_set_ne (by omega), List.getElem?_set_ne (by omega), List.getElem?_set_self (by simp only [List.length_set]; omega)]; rfl
      · rw [List.getElem?_set_ne (by omega), List.getElem?_set_self (by simp only [List.length_set]; omega)]; rfl
      · rw [List.getElem?_set_self (by simp only [List.length_set]; omega)]; rfl
    · rw [List.getElem?_set_ne (by omega), List.getElem?_set_ne (by omega), List.getElem?_set_ne (by omega), List.getElem?_set_ne (by omega), flat4_at hf hk hj, show setF f i [v0, v1, v2, v3] k = f k from if_neg ek]
  rw [← e]
  exact hb

theorem flat4_congr {N : Nat} {f g : Nat → List Value} (h : ∀ i, i < N → f i = g i) : flat4 N f = flat4 N g := flatMap_ext fun i hi => h i (List.mem_range.1 hi)

def zero4 : List Value := [.int .i64 0, .int .i64 0, .slice none 0 0, .bool false]

/-- m pages from p on have no state. -/
def zeroF (f : Nat → List Value) (p m : Nat) (i : Nat) : List Value := if p ≤ i ∧ i < p + m then zero4 else f i

theorem zeroF_four {f : Nat → List Value} (hf : ∀ i, (f i).length = 4) (p m i : Nat) : (zeroF f p m i).length = 4 := by unfold zeroF; split; exact rfl; exact hf i

theorem zeroF_next (f : Nat → List Value) (p m : Nat) : setF (zeroF f p m) (p + m) zero4 = zeroF f p (m + 1) := by
  funext i
  unfold setF zeroF
  by_cases e : i = p + m
  · rw [if_pos e, if_pos ⟨by omega, by omega⟩]
  · rw [if_neg e]
    by_cases c : p ≤ i ∧ i < p + m
    · rw [if_pos c, if_pos ⟨by omega, by omega⟩]
    · rw [if_neg c, if_neg (by omega)]

theorem zeroF_none (f : Nat → List Value) (p : Nat) : zeroF f p 0 = f := by
  funext i
  unfold zeroF
  rw [if_neg (by omega)]

section
variable {w w' : World} {b pb : Nat} {ub : Nat → Nat} {F G : Int} {pgs : List Pg} {ps : List Bool}

theorem stF_at {i : Nat} {x : Pg} {q : Bool} (hx : pgs[i]? = some x) (hq : ps[i]? = some q) : stF G pgs ub ps i = stV G x (ub i) q := by
  unfold stF
  rw [List.getD_eq_getElem?_getD, hx, List.getD_eq_getElem?_getD, hq]
  rfl

/-- A page that has no cells of its own is not pending. -/
theorem IsSp.idle (h : IsSp w b pb ub F G pgs ps) {i : Nat} {x : Pg} (hx : pgs[i]? = some x) (hf : x.first = false) : ps[i]? = some false := by
  have hi := (List.getElem?_eq_some_iff.1 hx).1
  have hp : ps[i]? = some (ps[i]'(by have := h.len; omega)) := List.getElem?_eq_getElem (by have := h.len; omega)
  cases e : ps[i]'(by have := h.len; omega) with
  | false => rw [hp, e]
  | true =>
    rw [e] at hp
    obtain ⟨y, hy, hf2⟩ := h.pend i hp
    rw [hx] at hy
    cases hy
    rw [hf] at hf2
    cases hf2

/-- A flag of a block turns. -/
theorem IsSp.setFlag (h : IsSp w b pb ub F G pgs ps) {p j : Nat} {s : Int} {us : List Bool} (hx : pgs[p]? = some (.blk s us)) (v : Bool) (hw : WF G (pgs.set p (.blk s (us.set j v)))) :
    IsSp (w.setCell ⟨ub p, j, none⟩ (.bool v)) b pb ub F G (pgs.set p (.blk s (us.set j v))) ps := by
  have hp := (List.getElem?_eq_some_iff.1 hx).1
  have at_ : ∀ i : Nat, (pgs.set p (.blk s (us.set j v)))[i]? = if i = p then some (.blk s (us.set j v)) else pgs[i]? := fun i => by
    by_cases e : i = p
    · subst e; rw [List.getElem?_set_self hp, if_pos rfl]
    · rw [List.getElem?_set_ne (by omega), if_neg e]
  have old : ∀ (i : Nat) (y : Pg), (pgs.set p (.blk s (us.set j v)))[i]? = some y → y.first = true → ∃ z : Pg, pgs[i]? = some z ∧ z.first = true := fun i y hy hf => by
    rw [at_] at hy
    split at hy
    · rename_i e; subst e; exact ⟨_, hx, rfl⟩
    · exact ⟨y, hy, hf⟩
  refine { h with sp := ?_, pg := ?_, fl := fun i y hy hf => ?_, inj := fun i k y z hy hz hfy hfz => ?_, pend := fun i hi => ?_, wf := hw, len := by rw [List.length_set]; exact h.len }
  · rw [List.length_set]
    exact Blk.far h.sp (h.u_ne hx rfl) _
  · rw [List.length_set]
    have e : flat4 pgs.length (stF G (pgs.set p (.blk s (us.set j v))) ub ps) = flat4 pgs.length (stF G pgs ub ps) := flat4_congr fun i hi => by
      have hq : ps[i]? = some (ps[i]'(by have := h.len; omega)) := List.getElem?_eq_getElem (by have := h.len; omega)
      by_cases e : i = p
      · subst e
        rw [stF_at (by rw [at_, if_pos rfl]) hq, stF_at hx hq]
        simp [stV, Pg.kind, Pg.size, Pg.row, Pg.adr, Pg.first, Pg.flags]
      · rw [stF_at (x := pgs[i]) (by rw [at_, if_neg e]; exact List.getElem?_eq_getElem hi) hq, stF_at (List.getElem?_eq_getElem hi) hq]
    rw [e]
    exact h.pg.far (h.f_ne hx rfl).symm _
  · rw [at_] at hy
    split at hy
    · rename_i e
      subst e
      cases hy
      exact (h.fl i _ hx rfl).setBool j v
    · rename_i e
      exact (h.fl i y hy hf).far (fun e2 => e (h.inj i p y _ hy hx hf rfl e2)) _
  · obtain ⟨y', hy', hf'⟩ := old i y hy hfy
    obtain ⟨z', hz', hg'⟩ := old k z hz hfz
    exact h.inj i k y' z' hy' hz' hf' hg'
  · obtain ⟨y, hy, hf⟩ := h.pend i hi
    by_cases e : i = p
    · subst e; exact ⟨.blk s (us.set j v), by rw [at_, if_pos rfl], rfl⟩
    · exact ⟨y, by rw [at_, if_neg e]; exact hy, hf⟩

/-- Pages from p on are free: nothing else has turned. -/
theorem IsSp.emptied (h : IsSp w b pb ub F G pgs ps) {p c : Nat} (c1 : 1 ≤ c) (hc : p + c ≤ pgs.length) (hr : ∀ i : Nat, p < i → i < p + c → pgs[i]? = some .rest) (hw : WF G (fill pgs .free p c))
    (hs : SpB w' b F G pb pgs.length) (hg : Blk w' pb (flat4 pgs.length (zeroF (stF G pgs ub ps) p c)).toArray 166)
    (hf : ∀ (i : Nat) (x : Pg), pgs[i]? = some x → x.first = true → i ≠ p → Blk w' (ub i) (x.flags.map Value.bool).toArray 4) : IsSp w' b pb ub F G (fill pgs .free p c) (ps.set p false) := by
  have at_ := fun i hi => fill_at pgs .free p c i hi
  have hl := h.len
  have len := fill_length pgs .free p c
  have old : ∀ (i : Nat) (y : Pg), (fill pgs .free p c)[i]? = some y → y.first = true → pgs[i]? = some y ∧ i ≠ p := fun i y hy hf => by
    have hi := (List.getElem?_eq_some_iff.1 hy).1
    rw [len] at hi
    rw [at_ i hi] at hy
    split at hy
    · cases hy; cases hf
    · exact ⟨hy, by omega⟩
  refine { h with sp := by rw [len]; exact hs, pg := ?_, fl := fun i y hy hfy => ?_, inj := fun i k y z hy hz hfy hfz => ?_, pend := fun i hi => ?_, wf := hw, len := by rw [len, List.length_set]; exact h.len, p1 := by rw [List.length_set]; exact h.p1 }
  · rw [len]
    have e : flat4 pgs.length (stF G (fill pgs .free p c) ub (ps.set p false)) = flat4 pgs.length (zeroF (stF G pgs ub ps) p c) := flat4_congr fun i hi => by
      have hq : ps[i]? = some (ps[i]'(by omega)) := List.getElem?_eq_getElem (by omega)
      unfold zeroF
      by_cases e : p ≤ i ∧ i < p + c
      · rw [if_pos e]
        have hq2 : (ps.set p false)[i]? = some false := by
          by_cases e2 : i = p
          · subst e2; rw [List.getElem?_set_self (by omega)]
          · rw [List.getElem?_set_ne (by omega)]
            exact h.idle (hr i (by omega) e.2) rfl
        rw [stF_at (by rw [at_ i hi, if_pos e]) hq2]
        rfl
      · rw [if_neg e, stF_at (x := pgs[i]) (by rw [at_ i hi, if_neg e]; exact List.getElem?_eq_getElem hi) (by rw [List.getElem?_set_ne (by omega)]; exact hq), stF_at (List.getElem?_eq_getElem hi) hq]
    rw [e]
    exact hg
  · obtain ⟨k1, k2⟩ := old i y hy hfy
    exact hf i y k1 hfy k2
  · exact h.inj i k y z (old i y hy hfy).1 (old k z hz hfz).1 hfy hfz
  · have hip : i ≠ p := fun e => by subst e; rw [List.getElem?_set_self (by omega)] at hi; cases hi
    rw [List.getElem?_set_ne (by omega)] at hi
    obtain ⟨y, hy, hfy⟩ := h.pend i hi
    have hil := (List.getElem?_eq_some_iff.1 hy).1
    refine ⟨y, ?_, hfy⟩
    rw [at_ i hil, if_neg (fun e => by rw [hr i (by omega) e.2] at hy; cases hy; cases hfy)]
    exact hy
end

theorem fill_one {pgs : List Pg} {p : Nat} (y : Pg) (hp : p < pgs.length) : fill pgs y p 1 = pgs.set p y := by
  apply List.ext_getElem?
  intro i
  by_cases hi : i < pgs.length
  · rw [fill_at _ _ _ _ _ hi]
    by_cases e : i = p
    · subst e; rw [if_pos ⟨by omega, by omega⟩, List.getElem?_set_self hp]
    · rw [if_neg (by omega), List.getElem?_set_ne (by omega)]
  · rw [List.getElem?_eq_none (by rw [fill_length]; omega), List.getElem?_eq_none (by rw [List.length_set]; omega)]

theorem pages_quiet (p n : Int) (w : World) (hn : n ≤ 9223372036854775807) : Calls Tryz.prog 152 #[.int .i64 p, .int .i64 n] w fun e w' => e = .returned (.int .i64 (pagesI p n)) ∧ ∃ m, w' = w.drewN m :=
  (pages_any p n w hn).mono fun _ _ ⟨h1, h2⟩ => ⟨h1, 0, h2.symm⟩
end Go.Proofs.YthmhehehomieiaaGreat

/- Contract of the program's Give. -/
namespace Go.Proofs.YthmhehehomieiaaGreat
open Go.RowKit

/-- How Give ends. -/
def GaveM (b pb : Nat) (ub : Nat → Nat) (F G : Int) (pgs : List Pg) (ps : List Bool) (n : Int) (w : World) (e : Ending) (w' : World) : Prop :=
  ∃ ok pgs' ps', e = .returned (.bool ok) ∧ GiveA F G ps pgs n ok pgs' ps' ∧ IsSp w' b pb ub F G pgs' ps' ∧ Frm (SpS b pb ub pgs) w w'

theorem give_some {F G n : Int} {pgs : List Pg} {ps : List Bool} {p j : Nat} {x : Pg} (hx : pgs[p]? = some x) (hj : x.flags[j]? = some true) (hn : n = F + p * G + j * x.size G) (ht : hasV (x.flags.set j false) true = true) :
    ∃ s us, x = .blk s us ∧ true ∈ us.set j false ∧ GiveA F G ps pgs n true (pgs.set p (.blk s (us.set j false))) ps := by
  have hm : true ∈ x.flags.set j false := of_decide_eq_true ht
  cases x with
  | free => simp [Pg.flags] at hj
  | rest => simp [Pg.flags] at hj
  | big c =>
    obtain rfl : j = 0 := by have := (List.getElem?_eq_some_iff.1 hj).1; simp only [Pg.flags, List.length_singleton] at this; omega
    simp [Pg.flags] at hm
  | blk s us => exact ⟨s, us, rfl, hm, Or.inr (Or.inl ⟨p, j, s, us, hx, hj, hn, rfl, Or.inl ⟨hm, rfl, rfl⟩⟩)⟩

/-- How many pages something takes. -/
def Pg.count : Pg → Nat
  | .big c => c
  | _ => 1

theorem give_none {F G n : Int} {pgs : List Pg} {ps : List Bool} (g0 : 1 ≤ G) (wf : WF G pgs) {p j : Nat} {x : Pg} (hx : pgs[p]? = some x) (hj : x.flags[j]? = some true) (hn : n = F + p * G + j * x.size G) (ht : hasV (x.flags.set j false) true = false) :
    pagesI G (x.size G) = x.count ∧ 1 ≤ x.count ∧ p + x.count ≤ pgs.length ∧ (∀ i : Nat, p < i → i < p + x.count → pgs[i]? = some .rest) ∧ WF G (fill pgs .free p x.count) ∧ GiveA F G ps pgs n true (fill pgs .free p x.count) (ps.set p false) := by
  have hp := (List.getElem?_eq_some_iff.1 hx).1
  have hm : true ∉ x.flags.set j false := of_decide_eq_false ht
  cases x with
  | free => simp [Pg.flags] at hj
  | rest => simp [Pg.flags] at hj
  | big c =>
    obtain ⟨k1, k2, k3⟩ := wf.big p c hx
    obtain rfl : j = 0 := by have := (List.getElem?_eq_some_iff.1 hj).1; simp only [Pg.flags, List.length_singleton] at this; omega
    have hc : (⟨F + p * G, c * G, true, true⟩ : Rc) ∈ cellsP F G pgs := mem_cellsP.2 ⟨p, _, hx, by simp [Pg.cells]⟩
    obtain ⟨m, hm', em⟩ := List.getElem_of_mem hc
    have hr := Rel.unlarge (u := false) g0 (Rel.mk (List.Perm.refl _) wf) hx (show (cellsP F G pgs)[m]? = some _ by rw [List.getElem?_eq_getElem hm', em])
    refine ⟨?_, k1, k2, k3, hr.wf, Or.inr (Or.inr ⟨p, c, hx, by simpa [Pg.size] using hn, rfl, rfl, rfl⟩)⟩
    show pagesI G (c * G) = c
    have h1 := Int.mul_le_mul_of_nonneg_right (show (1 : Int) ≤ c by omega) (show 0 ≤ G by omega)
    rw [pagesI_even (by omega) (by omega) (Int.mul_emod_left _ _), Int.mul_ediv_cancel _ (by omega)]
  | blk s us =>
    obtain ⟨s0, s1, hl, _⟩ := wf.blk p s us hx
    have hm : true ∉ us.set j false := hm
    refine ⟨?_, Nat.le_refl _, hp, fun i h1 h2 => by simp only [Pg.count] at h2; omega, ?_, Or.inr (Or.inl ⟨p, j, s, us, hx, hj, hn, rfl, Or.inr ⟨hm, fill_one _ hp, rfl⟩⟩)⟩
    · show pagesI G s = 1
      rw [pagesI, if_neg (by omega), Int.ediv_eq_zero_of_lt (by omega) (by omega)]
      rfl
    · show WF G (fill pgs .free p 1)
      rw [fill_one _ hp]
      exact wf.turn hx (Or.inr ⟨s, us, rfl⟩) (Or.inl rfl)

/-- What the loop that empties pages keeps. -/
def EmpI (w0 wr : World) (b pb : Nat) (ub : Nat → Nat) (F G : Int) (pgs : List Pg) (ps : List Bool) (p m : Nat) : Prop :=
  SpB wr b F G pb pgs.length ∧ Blk wr pb (flat4 pgs.length (zeroF (stF G pgs ub ps) p m)).toArray 166 ∧
  (∀ (i : Nat) (x : Pg), pgs[i]? = some x → x.first = true → i ≠ p → Blk wr (ub i) (x.flags.map Value.bool).toArray 4) ∧ Frm (SpS b pb ub pgs) w0 wr

theorem EmpI.next {w0 wr : World} {b pb : Nat} {ub : Nat → Nat} {F G : Int} {pgs : List Pg} {ps : List Bool} {p m : Nat} (h : EmpI w0 wr b pb ub F G pgs ps p m) (hm : p + m < pgs.length) :
    EmpI w0 ((((wr.setCell ⟨pb, (p + m) * 4, none⟩ (.int .i64 0)).setCell ⟨pb, (p + m) * 4 + 1, none⟩ (.int .i64 0)).setCell ⟨pb, (p + m) * 4 + 2, none⟩ (.slice none 0 0)).setCell ⟨pb, (p + m) * 4 + 3, none⟩ (.bool false)) b pb ub F G pgs ps p (m + 1) := by
  obtain ⟨h1, h2, h3, h4⟩ := h
  have ne : b ≠ pb := Blk.ne_ h1 h2 (by decide)
  refine ⟨Blk.far (Blk.far (Blk.far (Blk.far h1 ne _) ne _) ne _) ne _, ?_, fun i x hx hf hn => ?_, ?_⟩
  · rw [← zeroF_next]
    exact h2.set4 (zeroF_four (stF_four G pgs ub ps) p m) (p + m) hm _ _ _ _
  · have hb := h3 i x hx hf hn
    have ne2 : ub i ≠ pb := Blk.ne_ hb h2 (by decide)
    exact (((hb.far ne2 _).far ne2 _).far ne2 _).far ne2 _
  · exact (((h4.setCell (p := ⟨pb, (p + m) * 4, none⟩) (fun _ => Or.inr (Or.inl rfl)) _).setCell (p := ⟨pb, (p + m) * 4 + 1, none⟩) (fun _ => Or.inr (Or.inl rfl)) _).setCell (p := ⟨pb, (p + m) * 4 + 2, none⟩) (fun _ => Or.inr (Or.inl rfl)) _).setCell (p := ⟨pb, (p + m) * 4 + 3, none⟩) (fun _ => Or.inr (Or.inl rfl)) _

end Go.Proofs.YthmhehehomieiaaGreat

/- Contracts of the program's row and roomy. -/
namespace Go.Proofs.YthmhehehomieiaaGreat
open Go.RowKit

/-- The first of C free pages, side by side. -/
def RowA (pgs : List Pg) (C : Nat) (u : Value) : Prop :=
  (∃ p : Nat, p + C ≤ pgs.length ∧ Run pgs p C ∧ (∀ q : Nat, q < p → ¬ Run pgs q C) ∧ u = yesV p) ∨ ((∀ q : Nat, q + C ≤ pgs.length → ¬ Run pgs q C) ∧ u = noT)

def RowR (pgs : List Pg) (C : Nat) (w : World) (e : Ending) (w' : World) : Prop := ∃ u, e = .returned u ∧ RowA pgs C u ∧ Below w.heap.size w w'

/-- What is known at page k: m pages before it are free, not m + 1; and none of the first k pages begin C free ones that end there. -/
def RowI (pgs : List Pg) (C k m : Nat) : Prop := m ≤ k ∧ m < C ∧ Run pgs (k - m) m ∧ (m < k → pgs[k - m - 1]? ≠ some .free) ∧ ∀ q : Nat, q + C ≤ k → ¬ Run pgs q C

theorem RowI.start {pgs : List Pg} {C : Nat} (h : 1 ≤ C) : RowI pgs C 0 0 := ⟨Nat.le_refl _, h, fun i h1 h2 => by omega, fun h => by omega, fun q hq => by omega⟩

theorem RowI.other {pgs : List Pg} {C k m : Nat} {x : Pg} (h : RowI pgs C k m) (hx : pgs[k]? = some x) (hn : x.isFree = false) : RowI pgs C (k + 1) 0 := by
  have nf : pgs[k]? ≠ some .free := fun e => by rw [hx] at e; cases e; cases hn
  have h1 := h.2.1
  refine ⟨Nat.zero_le _, by omega, fun i h1 h2 => by omega, fun _ => ?_, fun q hq hr => ?_⟩
  · rw [show k + 1 - 0 - 1 = k by omega]
    exact nf
  · by_cases e : q + C ≤ k
    · exact h.2.2.2.2 q e hr
    · exact nf (hr k (by omega) (by omega))

theorem RowI.run {pgs : List Pg} {C k m : Nat} (h : RowI pgs C k m) (hx : pgs[k]? = some .free) : Run pgs (k - m) (m + 1) := fun i h1 h2 => by
  by_cases e : i = k
  · subst e; exact hx
  · have := h.1
    exact h.2.2.1 i h1 (by omega)

theorem RowI.more {pgs : List Pg} {C k m : Nat} (h : RowI pgs C k m) (hx : pgs[k]? = some .free) (hC : m + 1 ≠ C) : RowI pgs C (k + 1) (m + 1) := by
  obtain ⟨h0, h1, h2, h3, h4⟩ := h
  have hr := RowI.run ⟨h0, h1, h2, h3, h4⟩ hx
  refine ⟨by omega, by omega, ?_, fun hlt => ?_, fun q hq hr => ?_⟩
  · rw [show k + 1 - (m + 1) = k - m by omega]
    exact hr
  · rw [show k + 1 - (m + 1) - 1 = k - m - 1 by omega]
    exact h3 (by omega)
  · by_cases e : q + C ≤ k
    · exact h4 q e hr
    · exact h3 (by omega) (hr (k - m - 1) (by omega) (by omega))

theorem RowI.found {pgs : List Pg} {C k m : Nat} (h : RowI pgs C k m) (hx : pgs[k]? = some .free) (hC : m + 1 = C) : RowA pgs C (yesV ((k : Int) - C + 1)) := by
  have hk := (List.getElem?_eq_some_iff.1 hx).1
  have hr := h.run hx
  have h0 := h.1
  refine Or.inl ⟨k - m, by omega, by rw [← hC]; exact hr, fun q hq => h.2.2.2.2 q (by omega), ?_⟩
  congr 1
  omega

theorem isFree_iff {x : Pg} (h : x.kind = 0) : x = .free := by cases x <;> simp_all [Pg.kind]

theorem isFree_not {x : Pg} (h : ¬ x.kind = 0) : x.isFree = false := by cases x <;> simp_all [Pg.kind, Pg.isFree]

set_option maxHeartbeats 4000000 in
theorem row_any (b pb : Nat) (ub : Nat → Nat) (F G : Int) (pgs : List Pg) (ps : List Bool) (C : Nat) (w : World) (h : IsSp w b pb ub F G pgs ps) (hC : 1 ≤ C) (hm : (C : Int) ≤ 9223372036854775807) :
    Calls Tryz.prog 168 #[spP b, .int .i64 C] w (RowR pgs C w) := by
  have few := h.p1
  rw [← h.len] at few
  obtain ⟨c0, c1, c2, cf⟩ := h.sp.three
  have HH := Lib.hid h
  obtain ⟨N, hN⟩ : ∃ N, pgs.length = N := ⟨_, rfl⟩
  rw [hN] at few c2
  have HN := Lib.hid hN
  clear h hN c0 c1
  unfold spP
  go_enter Tryz.func168, Tryz.ntmps168
  go_wp2_with fail
  clear c2 cf
  go_loopw [6, 14] (fun s s14 wr => ∃ (k m : Nat), k ≤ N ∧ s14 = .int .i64 k ∧ s = .int .i64 m ∧ m ≤ k ∧ Hid (RowI pgs C k m) ∧ Below w.heap.size w wr) (fun _ s14 _ => N - (intOf s14).toNat)
  case atStart => exact ⟨0, 0, Nat.zero_le _, rfl, rfl, Nat.le_refl _, Lib.hid (RowI.start hC), Below.refl _ _⟩
  case round =>
    obtain ⟨k, m, hk, rfl, rfl, mk, HR, bb⟩ := hrel
    by_cases hlt : k < N
    · obtain ⟨x, hx⟩ : ∃ x, pgs[k]? = some x := ⟨_, List.getElem?_eq_getElem (by have := HN.out; omega)⟩
      obtain ⟨p, hp, d0, d1, d2, d3, df⟩ := (HH.out.keep bb).at_ hx
      have HX := Lib.hid hx
      clear hx hp
      by_cases fk : x.kind = 0
      · rw [fk] at d0
        have hf := HX.out
        rw [isFree_iff fk] at hf
        have HF := Lib.hid hf
        clear hf
        by_cases e : m + 1 = C
        · have R := Lib.hid (HR.out.found HF.out e)
          have e1 : (m : Int) + 1 = (C : Int) := by omega
          have E1 := Lib.hid e1
          have e2 : ((m : Int) + 1 == (C : Int)) = true := by simpa using e1
          clear e e1
          go_wp2
          go_ret2
          exact ⟨_, rfl, R.out, bb.alloc bb.size _⟩
        · have R := Lib.hid (HR.out.more HF.out e)
          have e2 : ((m : Int) + 1 == (C : Int)) = false := by
            have : ¬ ((m : Int) + 1 = (C : Int)) := by omega
            simpa using this
          go_wp2
          go_roundw
          case rel => exact ⟨k + 1, m + 1, by omega, by go_num, by go_num, by omega, R, bb.alloc bb.size _⟩
          case measure => simp [intOf]; omega
      · have R := Lib.hid (HR.out.other HX.out (isFree_not fk))
        have fk1 : (x.kind == 0) = false := by simpa using fk
        have fk2 : (x.kind != 0) = true := by simpa using fk
        go_wp2
        go_roundw
        case rel => exact ⟨k + 1, 0, by omega, by go_num, rfl, by omega, R, bb.alloc bb.size _⟩
        case measure => simp [intOf]; omega
    · obtain rfl : k = N := by omega
      have R := Lib.hid (show RowA pgs C noT from Or.inr ⟨fun q hq => HR.out.2.2.2.2 q (by rw [← HN.out]; exact hq), rfl⟩)
      go_wp2
      go_ret2
      exact ⟨_, rfl, R.out, bb⟩

/-- The first block of a size in which a cell may be taken. -/
def RoomyA (pgs : List Pg) (ps : List Bool) (s : Int) (u : Value) : Prop := (∃ p : Nat, RoomP pgs ps s p ∧ (∀ q : Nat, q < p → ¬ RoomP pgs ps s q) ∧ u = yesV p) ∨ ((∀ q : Nat, ¬ RoomP pgs ps s q) ∧ u = noT)

def RoomyR (pgs : List Pg) (ps : List Bool) (s : Int) (w : World) (e : Ending) (w' : World) : Prop := ∃ u, e = .returned u ∧ RoomyA pgs ps s u ∧ Below w.heap.size w w'

theorem room_next {pgs : List Pg} {ps : List Bool} {s : Int} {k : Nat} (h : ∀ q : Nat, q < k → ¬ RoomP pgs ps s q) (hn : ¬ RoomP pgs ps s k) : ∀ q : Nat, q < k + 1 → ¬ RoomP pgs ps s q := fun q hq => by
  by_cases e : q = k
  · subst e; exact hn
  · exact h q (by omega)

theorem kind_blk {x : Pg} (h : x.kind = 1) : ∃ s us, x = .blk s us := by
  cases x with
  | blk s us => exact ⟨s, us, rfl⟩
  | _ => cases h

set_option maxHeartbeats 4000000 in
theorem roomy_any (b pb : Nat) (ub : Nat → Nat) (F G : Int) (pgs : List Pg) (ps : List Bool) (s : Int) (w : World) (h : IsSp w b pb ub F G pgs ps) :
    Calls Tryz.prog 169 #[spP b, .int .i64 s] w (RoomyR pgs ps s w) := by
  have few := h.p1
  rw [← h.len] at few
  obtain ⟨c0, c1, c2, cf⟩ := h.sp.three
  have HH := Lib.hid h
  obtain ⟨N, hN⟩ : ∃ N, pgs.length = N := ⟨_, rfl⟩
  rw [hN] at few c2
  have HN := Lib.hid hN
  clear h hN c0 c1
  unfold spP
  go_enter Tryz.func169, Tryz.ntmps169
  go_wp2_with fail
  clear c2 cf
  go_loopw [13] (fun s13 wr => ∃ (k : Nat), k ≤ N ∧ s13 = .int .i64 k ∧ Hid (∀ q : Nat, q < k → ¬ RoomP pgs ps s q) ∧ Below w.heap.size w wr) (fun s13 _ => N - (intOf s13).toNat)
  case atStart => exact ⟨0, Nat.zero_le _, rfl, Lib.hid (fun q hq => by omega), Below.refl _ _⟩
  case round =>
    obtain ⟨k, hk, rfl, HR, bb⟩ := hrel
    by_cases hlt : k < N
    · obtain ⟨x, hx⟩ : ∃ x, pgs[k]? = some x := ⟨_, List.getElem?_eq_getElem (by have := HN.out; omega)⟩
      have hi := HH.out.keep bb
      obtain ⟨p, hp, d0, d1, d2, d3, df⟩ := hi.at_ hx
      have HX := Lib.hid hx
      have HP := Lib.hid hp
      clear hp
      have bN := Lib.hid (bb.alloc bb.size (.cells #[.int .i64 x.kind, .int .i64 (x.size G), .slice (x.adr (ub k)) x.flags.length x.flags.length, .bool p] 166))
      by_cases fk : x.kind = 1
      · obtain ⟨s', us, rfl⟩ := kind_blk fk
        have fl := (hi.fl k _ hx rfl).alloc (.cells #[.int .i64 1, .int .i64 s', .slice (some ⟨ub k, 0, none⟩) us.length us.length, .bool p] 166)
        have fz := (hi.small hx).2.2.2.2.1
        have HC := Lib.hid (contains_any (ub k) us false _ fl (by have : us.length ≤ 64 := fz; omega))
        have d0' : wr.cell? ⟨pb, k * 4, none⟩ = some (.int .i64 1) := d0
        have d1' : wr.cell? ⟨pb, k * 4 + 1, none⟩ = some (.int .i64 s') := d1
        have d2' : wr.cell? ⟨pb, k * 4 + 2, none⟩ = some (.slice (some ⟨ub k, 0, none⟩) us.length us.length) := d2
        clear hx hi d0 d1 d2 fl fz fk
        by_cases es : s' = s
        · subst es
          cases p with
          | true =>
            have R := Lib.hid (room_next HR.out (by rintro ⟨vs, e1, e2, e3⟩; rw [HP.out] at e2; cases e2))
            go_wp2
            go_roundw
            case rel => exact ⟨k + 1, by omega, by go_num, R, bN.out⟩
            case measure => simp [intOf]; omega
          | false =>
            cases hv : hasV us false
            · rw [hv] at HC
              have R := Lib.hid (room_next HR.out (by
                rintro ⟨vs, e1, e2, e3⟩
                rw [HX.out] at e1
                cases e1
                exact of_decide_eq_false hv e3))
              clear hv
              go_wp2_with fail
              refine HC.out.mono ?_
              rintro e w1 ⟨rfl, rfl⟩
              go_wp2
              go_roundw
              case rel => exact ⟨k + 1, by omega, by go_num, R, bN.out⟩
              case measure => simp [intOf]; omega
            · rw [hv] at HC
              have R := Lib.hid (show RoomyA pgs ps s' (yesV k) from Or.inl ⟨k, ⟨us, HX.out, HP.out, of_decide_eq_true hv⟩, HR.out, rfl⟩)
              clear hv
              go_wp2_with fail
              refine HC.out.mono ?_
              rintro e w1 ⟨rfl, rfl⟩
              go_wp2
              go_ret2
              exact ⟨_, rfl, R.out, bN.out⟩
        · have R := Lib.hid (room_next HR.out (by
            rintro ⟨vs, e1, e2, e3⟩
            rw [HX.out] at e1
            cases e1
            exact es rfl))
          have es1 : (s' == s) = false := by simpa using es
          go_wp2
          go_roundw
          case rel => exact ⟨k + 1, by omega, by go_num, R, bN.out⟩
          case measure => simp [intOf]; omega
      · have R := Lib.hid (room_next HR.out (by
          rintro ⟨vs, e1, e2, e3⟩
          rw [HX.out] at e1
          cases e1
          exact fk rfl))
        have fk1 : (x.kind == 1) = false := by simpa using fk
        clear hx hi
        go_wp2
        go_roundw
        case rel => exact ⟨k + 1, by omega, by go_num, R, bN.out⟩
        case measure => simp [intOf]; omega
    · obtain rfl : k = N := by omega
      have R := Lib.hid (show RoomyA pgs ps s noT from Or.inr ⟨fun q hr => by
        by_cases hq : q < k
        · exact HR.out q hq hr
        · obtain ⟨us, e1, _⟩ := hr
          have := (List.getElem?_eq_some_iff.1 e1).1
          have := HN.out
          omega, rfl⟩)
      go_wp2
      go_ret2
      exact ⟨_, rfl, R.out, bb⟩
end Go.Proofs.YthmhehehomieiaaGreat

/- Contract of the program's takePages. -/
namespace Go.Proofs.YthmhehehomieiaaGreat
open Go.RowKit

def updU (ub : Nat → Nat) (p nb : Nat) (i : Nat) : Nat := if i = p then nb else ub i

section
variable {w w' : World} {b pb : Nat} {ub : Nat → Nat} {F G : Int} {pgs : List Pg} {ps : List Bool}

/-- A page becomes one that has cells, whose flags lie in a new block. -/
theorem IsSp.made (h : IsSp w b pb ub F G pgs ps) {pgs' : List Pg} {p nb : Nat} {y : Pg} (hl : pgs'.length = pgs.length) (hp : pgs'[p]? = some y) (hy : y.first = true)
    (ho : ∀ (i : Nat) (x : Pg), i ≠ p → pgs'[i]? = some x → x.first = true → pgs[i]? = some x) (hk : ∀ (i : Nat) (x : Pg), i ≠ p → pgs[i]? = some x → x.first = true → pgs'[i]? = some x)
    (hw : WF G pgs') (hn : w.heap.size ≤ nb) (hs : SpB w' b F G pb pgs.length) (hg : Blk w' pb (flat4 pgs.length (stF G pgs' (updU ub p nb) ps)).toArray 166)
    (hf : ∀ (i : Nat) (x : Pg), pgs[i]? = some x → x.first = true → Blk w' (ub i) (x.flags.map Value.bool).toArray 4) (hb : Blk w' nb (y.flags.map Value.bool).toArray 4) :
    IsSp w' b pb (updU ub p nb) F G pgs' ps := by
  refine { h with sp := by rw [hl]; exact hs, pg := by rw [hl]; exact hg, fl := fun i x hx hfx => ?_, inj := fun i k x z hx hz hfx hfz e => ?_, pend := fun i hi => ?_, wf := hw, len := hl.trans h.len }
  · by_cases e : i = p
    · subst e
      rw [hp] at hx
      cases hx
      rw [updU, if_pos rfl]
      exact hb
    · rw [updU, if_neg e]
      exact hf i x (ho i x e hx hfx) hfx
  · unfold updU at e
    by_cases e1 : i = p
    · by_cases e2 : k = p
      · rw [e1, e2]
      · rw [if_pos e1, if_neg e2] at e
        have := (h.fl k z (ho k z e2 hz hfz) hfz).lt
        omega
    · by_cases e2 : k = p
      · rw [if_neg e1, if_pos e2] at e
        have := (h.fl i x (ho i x e1 hx hfx) hfx).lt
        omega
      · rw [if_neg e1, if_neg e2] at e
        exact h.inj i k x z (ho i x e1 hx hfx) (ho k z e2 hz hfz) hfx hfz e
  · obtain ⟨x, hx, hfx⟩ := h.pend i hi
    by_cases e : i = p
    · subst e; exact ⟨y, hp, hy⟩
    · exact ⟨x, hk i x e hx hfx, hfx⟩

theorem Blk.set1 {w : World} {pb N : Nat} {f : Nat → List Value} {T : TypeId} (hf : ∀ i, (f i).length = 4) (h : Blk w pb (flat4 N f).toArray T) (i : Nat) (hi : i < N) {v0 v1 v2 v3 : Value} (hv : f i = [v0, v1, v2, v3]) (v : Value) :
    Blk (w.setCell ⟨pb, i * 4, none⟩ v) pb (flat4 N (setF f i [v, v1, v2, v3])).toArray T := by
  have hb := h.set_ (i * 4) v
  have e : (flat4 N f).toArray.setIfInBounds (i * 4) v = (flat4 N (setF f i [v, v1, v2, v3])).toArray := by
    apply Array.ext'
    simp only [Array.toList_setIfInBounds]
    have hl := flat4_length hf N
    refine flat4_ext (setF_four hf i rfl) (by rw [List.length_set, flat4_length hf]) fun k j hk hj => ?_
    by_cases ek : k = i
    · subst ek
      rw [show setF f k [v, v1, v2, v3] k = [v, v1, v2, v3] from if_pos rfl]
      by_cases ej : j = 0
      · subst ej; rw [Nat.add_zero, List.getElem?_set_self (by omega)]; rfl
      · rw [List.getElem?_set_ne (by omega), flat4_at hf hk hj, hv]
        obtain rfl | rfl | rfl : j = 1 ∨ j = 2 ∨ j = 3 := by omega
        all_goals rfl
    · rw [List.getElem?_set_ne (by omega), flat4_at hf hk hj, show setF f i [v, v1, v2, v3] k = f k from if_neg ek]
  rw [← e]
  exact hb

def later4 : List Value := [.int .i64 3, .int .i64 0, .slice none 0 0, .bool false]

def laterF (f : Nat → List Value) (p m : Nat) (i : Nat) : List Value := if p ≤ i ∧ i < p + m then later4 else f i

theorem laterF_four {f : Nat → List Value} (hf : ∀ i, (f i).length = 4) (p m i : Nat) : (laterF f p m i).length = 4 := by unfold laterF; split; exact rfl; exact hf i

theorem laterF_next (f : Nat → List Value) (p m : Nat) : setF (laterF f p m) (p + m) later4 = laterF f p (m + 1) := by
  funext i
  unfold setF laterF
  by_cases e : i = p + m
  · rw [if_pos e, if_pos ⟨by omega, by omega⟩]
  · rw [if_neg e]
    by_cases c : p ≤ i ∧ i < p + m
    · rw [if_pos c, if_pos ⟨by omega, by omega⟩]
    · rw [if_neg c, if_neg (by omega)]

theorem laterF_none (f : Nat → List Value) (p : Nat) : laterF f p 0 = f := by
  funext i
  unfold laterF
  rw [if_neg (by omega)]

/-- What the loop that takes pages keeps. -/
def LatI (w0 wr : World) (b pb : Nat) (ub : Nat → Nat) (F G : Int) (pgs : List Pg) (ps : List Bool) (p m : Nat) : Prop :=
  SpB wr b F G pb pgs.length ∧ Blk wr pb (flat4 pgs.length (laterF (stF G pgs ub ps) p m)).toArray 166 ∧
  (∀ (i : Nat) (x : Pg), pgs[i]? = some x → x.first = true → Blk wr (ub i) (x.flags.map Value.bool).toArray 4) ∧ Frm (SpS b pb ub pgs) w0 wr

theorem LatI.next {w0 wr : World} {p m : Nat} (h : LatI w0 wr b pb ub F G pgs ps p m) (hm : p + m < pgs.length) (hf : stF G pgs ub ps (p + m) = zero4) :
    LatI w0 (wr.setCell ⟨pb, (p + m) * 4, none⟩ (.int .i64 3)) b pb ub F G pgs ps p (m + 1) := by
  obtain ⟨h1, h2, h3, h4⟩ := h
  have ne : b ≠ pb := Blk.ne_ h1 h2 (by decide)
  refine ⟨Blk.far h1 ne _, ?_, fun i x hx hfx => ?_, ?_⟩
  · rw [← laterF_next]
    exact h2.set1 (laterF_four (stF_four G pgs ub ps) p m) (p + m) hm (show laterF (stF G pgs ub ps) p m (p + m) = zero4 by rw [laterF, if_neg (by omega)]; exact hf) _
  · have hb := h3 i x hx hfx
    exact hb.far (Blk.ne_ hb h2 (by decide)) _
  · exact h4.setCell (p := ⟨pb, (p + m) * 4, none⟩) (fun _ => Or.inr (Or.inl rfl)) _

theorem LatI.keep {w0 wr wr' : World} {p m : Nat} (h : LatI w0 wr b pb ub F G pgs ps p m) (b2 : Below wr.heap.size wr wr') : LatI w0 wr' b pb ub F G pgs ps p m :=
  ⟨Blk.keep h.1 b2, h.2.1.keep b2, fun i x hx hf => (h.2.2.1 i x hx hf).keep b2, h.2.2.2.trans (Frm.of_below (S := SpS b pb ub pgs) b2) (fun _ _ h => h)⟩

theorem LatI.cells {w0 wr : World} {p m i : Nat} (h : LatI w0 wr b pb ub F G pgs ps p m) (hi : i < pgs.length) {v0 v1 v2 v3 : Value} (hv : laterF (stF G pgs ub ps) p m i = [v0, v1, v2, v3]) :
    wr.cell? ⟨pb, i * 4, none⟩ = some v0 ∧ wr.cell? ⟨pb, i * 4 + 1, none⟩ = some v1 ∧ wr.cell? ⟨pb, i * 4 + 2, none⟩ = some v2 ∧ wr.cell? ⟨pb, i * 4 + 3, none⟩ = some v3 ∧ ∀ k, wr.frozen? ⟨pb, k, none⟩ = false := by
  have cell : ∀ t, t < 4 → wr.cell? ⟨pb, i * 4 + t, none⟩ = [v0, v1, v2, v3][t]? := fun t ht => by
    rw [h.2.1.cell, List.getElem?_toArray, flat4_at (laterF_four (stF_four G pgs ub ps) p m) hi ht, hv]
  exact ⟨cell 0 (by omega), cell 1 (by omega), cell 2 (by omega), cell 3 (by omega), h.2.1.frozen⟩
end

theorem setCell_size (w : World) (p : Addr) (u : Value) : (w.setCell p u).heap.size = w.heap.size := by simp [World.setCell]

/-- Four cells of a page's state are written, and a block is made. -/
def putS (wr : World) (pb p : Nat) (v0 v1 v2 v3 : Value) : World := (((wr.setCell ⟨pb, p * 4, none⟩ v0).setCell ⟨pb, p * 4 + 1, none⟩ v1).setCell ⟨pb, p * 4 + 2, none⟩ v2).setCell ⟨pb, p * 4 + 3, none⟩ v3

theorem putS_size (wr : World) (pb p : Nat) (v0 v1 v2 v3 : Value) : (putS wr pb p v0 v1 v2 v3).heap.size = wr.heap.size := by
  unfold putS; rw [setCell_size, setCell_size, setCell_size, setCell_size]

theorem Blk.putS {wr : World} {c pb p : Nat} {cs : Array Value} {T : TypeId} (h : Blk wr c cs T) (hn : c ≠ pb) (v0 v1 v2 v3 : Value) : Blk (putS wr pb p v0 v1 v2 v3) c cs T :=
  (((h.far hn _).far hn _).far hn _).far hn _

theorem Frm.putS {S : Nat → Prop} {a wr : World} {pb p : Nat} (h : Frm S a wr) (hp : S pb) (v0 v1 v2 v3 : Value) : Frm S a (putS wr pb p v0 v1 v2 v3) :=
  (((h.setCell (p := ⟨pb, p * 4, none⟩) (fun _ => hp) _).setCell (p := ⟨pb, p * 4 + 1, none⟩) (fun _ => hp) _).setCell (p := ⟨pb, p * 4 + 2, none⟩) (fun _ => hp) _).setCell (p := ⟨pb, p * 4 + 3, none⟩) (fun _ => hp) _

/-- What is large is there. -/
theorem LatI.big {w wr : World} {b pb : Nat} {ub : Nat → Nat} {F G : Int} {pgs : List Pg} {ps : List Bool} {p C : Nat} (h : IsSp w b pb ub F G pgs ps) (hL : LatI w wr b pb ub F G pgs ps p C) (hp : p + C ≤ pgs.length) (hC : 1 ≤ C) (hr : Run pgs p C) :
    IsSp ((putS wr pb p (.int .i64 2) (.int .i64 (C * G)) (.slice (some ⟨wr.heap.size, 0, none⟩) 1 1) (.bool false)).alloc (.cells #[.bool true] 4)).drew b pb (updU ub p wr.heap.size) F G (bigAt pgs p C) ps ∧
    Frm (SpS b pb ub pgs) w ((putS wr pb p (.int .i64 2) (.int .i64 (C * G)) (.slice (some ⟨wr.heap.size, 0, none⟩) 1 1) (.bool false)).alloc (.cells #[.bool true] 4)).drew ∧
    ∀ k, SpS b pb (updU ub p wr.heap.size) (bigAt pgs p C) k → SpS b pb ub pgs k ∨ w.heap.size ≤ k := by
  obtain ⟨h1, h2, h3, h4⟩ := hL
  have ne : b ≠ pb := Blk.ne_ h1 h2 (by decide)
  have at_ := fun i hi => bigAt_at pgs p C i hi
  have len : (bigAt pgs p C).length = pgs.length := by rw [bigAt, List.length_set, fill_length]
  have hl := h.len
  have ho : ∀ (i : Nat) (x : Pg), i ≠ p → (bigAt pgs p C)[i]? = some x → x.first = true → pgs[i]? = some x := fun i x hne hx hf => by
    have hi := (List.getElem?_eq_some_iff.1 hx).1
    rw [len] at hi
    rw [at_ i hi, if_neg hne] at hx
    split at hx
    · cases hx; cases hf
    · exact hx
  have hk : ∀ (i : Nat) (x : Pg), i ≠ p → pgs[i]? = some x → x.first = true → (bigAt pgs p C)[i]? = some x := fun i x hne hx hf => by
    have hi := (List.getElem?_eq_some_iff.1 hx).1
    rw [at_ i hi, if_neg hne, if_neg (fun hh => by rw [hr i hh.1 hh.2] at hx; cases hx; cases hf)]
    exact hx
  have hpp : (bigAt pgs p C)[p]? = some (.big C) := by rw [at_ p (by omega), if_pos rfl]
  have hg : flat4 pgs.length (stF G (bigAt pgs p C) (updU ub p wr.heap.size) ps) = flat4 pgs.length (setF (laterF (stF G pgs ub ps) p C) p [.int .i64 2, .int .i64 (C * G), .slice (some ⟨wr.heap.size, 0, none⟩) 1 1, .bool false]) := flat4_congr fun i hi => by
    have hq : ps[i]? = some (ps[i]'(by omega)) := List.getElem?_eq_getElem (by omega)
    unfold setF
    by_cases e : i = p
    · subst e
      rw [if_pos rfl, stF_at hpp (h.idle (hr i (by omega) (by omega)) rfl)]
      simp [stV, Pg.kind, Pg.size, Pg.row, Pg.adr, Pg.first, Pg.flags, updU]
    · rw [if_neg e]
      unfold laterF
      by_cases c : p ≤ i ∧ i < p + C
      · rw [if_pos c, stF_at (x := .rest) (by rw [at_ i hi, if_neg e, if_pos c]) (h.idle (hr i c.1 c.2) rfl)]
        rfl
      · rw [if_neg c, stF_at (x := pgs[i]) (by rw [at_ i hi, if_neg e, if_neg c]; exact List.getElem?_eq_getElem hi) hq, stF_at (List.getElem?_eq_getElem hi) hq]
        simp [updU, e]
  have nb : Blk ((putS wr pb p (.int .i64 2) (.int .i64 (C * G)) (.slice (some ⟨wr.heap.size, 0, none⟩) 1 1) (.bool false)).alloc (.cells #[.bool true] 4)) wr.heap.size #[.bool true] 4 := by
    have h := Blk.new (putS wr pb p (.int .i64 2) (.int .i64 (C * G)) (.slice (some ⟨wr.heap.size, 0, none⟩) 1 1) (.bool false)) #[.bool true] 4
    rwa [putS_size] at h
  refine ⟨h.made len hpp rfl ho hk ?_ h4.size (Blk.drew (Blk.alloc (Blk.putS h1 ne _ _ _ _) _)) ?_ (fun i x hx hf => (((h3 i x hx hf).putS (Blk.ne_ (h3 i x hx hf) h2 (by decide)) _ _ _ _).alloc _).drew) nb.drew, ((h4.putS (Or.inr (Or.inl rfl)) _ _ _ _).alloc _).drew, fun k hk2 => ?_⟩
  · exact (Rel.large (F := F) (Rel.mk (List.Perm.refl _) h.wf) hp hC hr).wf
  · rw [hg]
    exact ((h2.set4 (laterF_four (stF_four G pgs ub ps) p C) p (by omega) _ _ _ _).alloc _).drew
  · rcases hk2 with rfl | rfl | ⟨i, x, hx, hf, rfl⟩
    · exact Or.inl (Or.inl rfl)
    · exact Or.inl (Or.inr (Or.inl rfl))
    · unfold updU
      by_cases e : i = p
      · rw [if_pos e]; exact Or.inr h4.size
      · rw [if_neg e]; exact Or.inl (Or.inr (Or.inr ⟨i, x, ho i x e hx hf, hf, rfl⟩))

/-- How a Take ends. -/
def TookM (b pb : Nat) (ub : Nat → Nat) (F G : Int) (pgs : List Pg) (ps : List Bool) (w : World) (T : Value → List Pg → Prop) (e : Ending) (w' : World) : Prop :=
  ∃ u pgs' ub', e = .returned u ∧ T u pgs' ∧ IsSp w' b pb ub' F G pgs' ps ∧ Frm (SpS b pb ub pgs) w w' ∧ ∀ k, SpS b pb ub' pgs' k → SpS b pb ub pgs k ∨ w.heap.size ≤ k

set_option maxHeartbeats 8000000 in
set_option maxRecDepth 100000 in
theorem takePages_any (b pb : Nat) (ub : Nat → Nat) (F G : Int) (pgs : List Pg) (ps : List Bool) (C : Nat) (w : World) (h : IsSp w b pb ub F G pgs ps) (hC : 1 ≤ C) (hm : (C : Int) ≤ 9223372036854775807) :
    Calls Tryz.prog 151 #[spP b, .int .i64 C] w (TookM b pb ub F G pgs ps w (TakeLA F G pgs C)) := by
  have HR := Lib.hid (row_any b pb ub F G pgs ps C w h hC hm)
  have few := h.p1
  rw [← h.len] at few
  have f0 := h.f0
  have f1 := h.f1
  have g0 := h.g0
  have g1 := h.g1
  have HH := Lib.hid h
  obtain ⟨N, hN⟩ : ∃ N, pgs.length = N := ⟨_, rfl⟩
  rw [hN] at few
  have HN := Lib.hid hN
  clear h hN
  unfold spP at HR ⊢
  go_enter Tryz.func151, Tryz.ntmps151
  go_wp2_with fail
  refine HR.out.mono ?_
  rintro e w1 ⟨u, rfl, hA, b1⟩
  rcases hA with ⟨p, hp, hr, hq, rfl⟩ | ⟨hq, rfl⟩
  · have hi := HH.out.keep b1
    have L0 : Hid (LatI w w1 b pb ub F G pgs ps p 0) := Lib.hid ⟨hi.sp, by rw [laterF_none]; exact hi.pg, hi.fl, Frm.of_below b1⟩
    have ZR := Lib.hid (show ∀ i : Nat, p ≤ i → i < p + C → stF G pgs ub ps i = zero4 from fun i h1 h2 => stF_at (hr i h1 h2) (hi.idle (hr i h1 h2) rfl))
    have RR := Lib.hid (And.intro hp (And.intro hr hq))
    rw [HN.out] at hp
    unfold yesV
    clear hr hq hi
    go_wp2_with fail
    go_loopw [18] (fun s18 wr => ∃ m : Nat, m ≤ C ∧ s18 = .int .i64 m ∧ Hid (LatI w wr b pb ub F G pgs ps p m)) (fun s18 _ => C - (intOf s18).toNat)
    case atStart => exact ⟨0, Nat.zero_le _, rfl, L0⟩
    case round =>
      clear L0
      obtain ⟨m, hm2, rfl, HL⟩ := hrel
      obtain ⟨y0, y1, y2, y3⟩ := HL.out.1.three
      rw [HN.out] at y2
      by_cases mlt : m < C
      · obtain ⟨k0, k1, k2, k3, kf⟩ := HL.out.cells (i := p + m) (by rw [HN.out]; omega) (show _ = zero4 by rw [laterF, if_neg (by omega)]; exact ZR.out (p + m) (by omega) (by omega))
        clear y0 y1 k1 k2 k3
        go_wp2
        go_roundw
        case rel => exact ⟨m + 1, by omega, by go_num, Lib.hid (HL.out.next (by rw [HN.out]; omega) (ZR.out (p + m) (by omega) (by omega)))⟩
        case measure => simp [intOf]; omega
      · obtain rfl : m = C := by omega
        obtain ⟨k0, k1, k2, k3, kf⟩ := HL.out.cells (i := p) (by rw [HN.out]; omega) (show _ = later4 by rw [laterF, if_pos ⟨by omega, by omega⟩])
        have cG := page_in (G := G) (i := m) g0 g1 (by omega) (by omega)
        have hw1 : IntKind.i64.wrap ((m : Int) * G) = (m : Int) * G := IntWalk.i64_in _ (by omega)
        have p0 : (0 : Int) ≤ p := by omega
        have p1 : (p : Int) < N := by omega
        have bl : b < wr.heap.size := Blk.lt HL.out.1
        have pl : pb < wr.heap.size := HL.out.2.1.lt
        go_wp2_with fail
        clear y0
        go_region
        all_goals
          have HB := Lib.hid (LatI.big HH.out HL.out RR.out.1 hC RR.out.2.1)
          unfold putS at HB
          generalize World.drew (World.alloc _ _) = W3 at HB ⊢
          have KB := Lib.hid (begin_any b F G p pb (bigAt pgs p m).length _ HB.out.1.sp f0 f1 g0 g1 (by omega) (by omega))
          unfold spP at KB
          clear k0 k1 k2 k3 kf y1 y2 y3 hw1
          go_wp2_with fail
          refine KB.out.mono ?_
          rintro e w2 ⟨rfl, m2, rfl⟩
          go_wp2
          go_ret2
          exact ⟨_, bigAt pgs p m, updU ub p wr.heap.size, rfl, Or.inl ⟨p, RR.out.1, RR.out.2.1, RR.out.2.2, rfl, rfl⟩, HB.out.1.keep (below_drewN _ m2), HB.out.2.1.drewN m2, HB.out.2.2⟩
  · have R := Lib.hid (show TakeLA F G pgs C noT pgs from Or.inr ⟨hq, rfl, rfl⟩)
    clear hq
    unfold noT
    go_wp2
    go_ret2
    exact ⟨_, pgs, ub, rfl, R.out, HH.out.keep b1, Frm.of_below b1, fun k hk => Or.inl hk⟩
end Go.Proofs.YthmhehehomieiaaGreat

/- Contract of the program's takeCell. -/
namespace Go.Proofs.YthmhehehomieiaaGreat
open Go.RowKit

theorem cells_quiet (p s : Int) (w : World) (hp : p ≤ 9223372036854775807) : Calls Tryz.prog 170 #[.int .i64 p, .int .i64 s] w fun e w' => e = .returned (.int .i64 (cellsI p s)) ∧ w = w' := cells_any p s w hp

theorem us0_eq (K : Nat) : (List.replicate K false).set 0 true = us0 K := by
  apply List.ext_getElem?
  intro i
  unfold us0
  rw [List.getElem?_map]
  by_cases hi : i < K
  · rw [List.getElem?_range hi]
    by_cases e : i = 0
    · subst e; rw [List.getElem?_set_self (by simpa using hi)]; rfl
    · rw [List.getElem?_set_ne (by omega), List.getElem?_replicate, if_pos hi]; simp [e]
  · rw [List.getElem?_eq_none (by simp; omega), List.getElem?_eq_none (by simp; omega)]; rfl

theorem idx_new (K : Nat) (hK : 1 ≤ K) : idxI (List.replicate K false) false = 0 := by
  obtain ⟨m, rfl⟩ : ∃ m, K = m + 1 := ⟨K - 1, by omega⟩
  rfl

/-- What is known when a page has been made a block, whose cells are not in use. -/
def NewI (w0 wr : World) (b pb nb : Nat) (ub : Nat → Nat) (F G : Int) (pgs : List Pg) (ps : List Bool) (p K : Nat) (s : Int) : Prop :=
  SpB wr b F G pb pgs.length ∧ Blk wr pb (flat4 pgs.length (setF (stF G pgs ub ps) p [.int .i64 1, .int .i64 s, .slice (some ⟨nb, 0, none⟩) K K, .bool false])).toArray 166 ∧
  (∀ (i : Nat) (x : Pg), pgs[i]? = some x → x.first = true → Blk wr (ub i) (x.flags.map Value.bool).toArray 4) ∧ Blk wr nb ((List.replicate K false).map Value.bool).toArray 4 ∧ w0.heap.size ≤ nb ∧ Frm (SpS b pb ub pgs) w0 wr

section
variable {w wr : World} {b pb nb : Nat} {ub : Nat → Nat} {F G : Int} {pgs : List Pg} {ps : List Bool} {p K : Nat} {s : Int}

theorem NewI.cells (h : NewI w wr b pb nb ub F G pgs ps p K s) (hp : p < pgs.length) : wr.cell? ⟨pb, p * 4 + 2, none⟩ = some (.slice (some ⟨nb, 0, none⟩) K K) ∧ ∀ k, wr.frozen? ⟨pb, k, none⟩ = false := by
  refine ⟨?_, h.2.1.frozen⟩
  rw [h.2.1.cell, List.getElem?_toArray, flat4_at (setF_four (stF_four G pgs ub ps) p rfl) hp (by omega)]
  unfold setF
  rw [if_pos rfl]
  rfl

/-- Its first cell is taken. -/
theorem NewI.taken (h0 : IsSp w b pb ub F G pgs ps) (h : NewI w wr b pb nb ub F G pgs ps p K s) (hx : pgs[p]? = some .free) (s0 : 4 ≤ s) (s1 : s ≤ G / 2) (hK : K = (G / s).toNat) :
    IsSp (wr.setCell ⟨nb, 0, none⟩ (.bool true)) b pb (updU ub p nb) F G (pgs.set p (.blk s (us0 K))) ps ∧ Frm (SpS b pb ub pgs) w (wr.setCell ⟨nb, 0, none⟩ (.bool true)) ∧
    ∀ k, SpS b pb (updU ub p nb) (pgs.set p (.blk s (us0 K))) k → SpS b pb ub pgs k ∨ w.heap.size ≤ k := by
  obtain ⟨h1, h2, h3, h4, h5, h6⟩ := h
  have hp := (List.getElem?_eq_some_iff.1 hx).1
  have hl := h0.len
  have at_ : ∀ i : Nat, (pgs.set p (.blk s (us0 K)))[i]? = if i = p then some (.blk s (us0 K)) else pgs[i]? := fun i => by
    by_cases e : i = p
    · subst e; rw [List.getElem?_set_self hp, if_pos rfl]
    · rw [List.getElem?_set_ne (by omega), if_neg e]
  have ho : ∀ (i : Nat) (x : Pg), i ≠ p → (pgs.set p (.blk s (us0 K)))[i]? = some x → x.first = true → pgs[i]? = some x := fun i x hne hx _ => by rw [at_, if_neg hne] at hx; exact hx
  have hk : ∀ (i : Nat) (x : Pg), i ≠ p → pgs[i]? = some x → x.first = true → (pgs.set p (.blk s (us0 K)))[i]? = some x := fun i x hne hx _ => by rw [at_, if_neg hne]; exact hx
  have lk : (us0 K).length = K := by simp [us0]
  have hg : flat4 pgs.length (stF G (pgs.set p (.blk s (us0 K))) (updU ub p nb) ps) = flat4 pgs.length (setF (stF G pgs ub ps) p [.int .i64 1, .int .i64 s, .slice (some ⟨nb, 0, none⟩) K K, .bool false]) := flat4_congr fun i hi => by
    have hq : ps[i]? = some (ps[i]'(by omega)) := List.getElem?_eq_getElem (by omega)
    unfold setF
    by_cases e : i = p
    · subst e
      rw [if_pos rfl, stF_at (by rw [at_, if_pos rfl]) (h0.idle hx rfl)]
      simp [stV, Pg.kind, Pg.size, Pg.row, Pg.adr, Pg.first, Pg.flags, updU, lk]
    · rw [if_neg e, stF_at (x := pgs[i]) (by rw [at_, if_neg e]; exact List.getElem?_eq_getElem hi) hq, stF_at (List.getElem?_eq_getElem hi) hq]
      simp [updU, e]
  have fne : ∀ (i : Nat) (x : Pg), pgs[i]? = some x → x.first = true → ub i ≠ nb := fun i x hx hf => by
    have := (h0.fl i x hx hf).lt
    omega
  have wf : WF G (pgs.set p (.blk s (us0 K))) := by
    subst hK
    exact (Rel.fresh (F := F) (Rel.mk (List.Perm.refl _) h0.wf) hx s0 s1).wf
  have nbl : Blk (wr.setCell ⟨nb, 0, none⟩ (.bool true)) nb ((us0 K).map Value.bool).toArray 4 := by
    have h := h4.setBool 0 true
    rwa [us0_eq K] at h
  refine ⟨h0.made (y := .blk s (us0 K)) (by rw [List.length_set]) (by rw [at_, if_pos rfl]) rfl ho hk wf h5 (Blk.far h1 (Blk.ne_ h1 h4 (by decide)) _) ?_ (fun i x hx hf => (h3 i x hx hf).far (fne i x hx hf) _) nbl, h6.setCell (p := ⟨nb, 0, none⟩) (fun hlt => by have : nb < w.heap.size := hlt; omega) _, fun k hk2 => ?_⟩
  · rw [hg]
    exact h2.far (Blk.ne_ h2 h4 (by decide)) _
  · rcases hk2 with rfl | rfl | ⟨i, x, hx, hf, rfl⟩
    · exact Or.inl (Or.inl rfl)
    · exact Or.inl (Or.inr (Or.inl rfl))
    · unfold updU
      by_cases e : i = p
      · rw [if_pos e]; exact Or.inr h5
      · rw [if_neg e]; exact Or.inl (Or.inr (Or.inr ⟨i, x, ho i x e hx hf, hf, rfl⟩))
end

theorem NewI.start {w w2 : World} {b pb : Nat} {ub : Nat → Nat} {F G : Int} {pgs : List Pg} {ps : List Bool} {p K : Nat} {s : Int} (h : IsSp w2 b pb ub F G pgs ps) (hb : Below w.heap.size w w2) (hp : p < pgs.length) :
    NewI w (((putS w2 pb p (.int .i64 1) (.int .i64 s) (.slice (some ⟨w2.heap.size, 0, none⟩) K K) (.bool false)).alloc (.cells (Array.replicate K (Value.bool false)) 4)).drew) b pb w2.heap.size ub F G pgs ps p K s := by
  refine ⟨Blk.drew (Blk.alloc (Blk.putS h.sp h.b_ne _ _ _ _) _), ((h.pg.set4 (stF_four G pgs ub ps) p hp _ _ _ _).alloc _).drew, fun i x hx hf => (((h.fl i x hx hf).putS (h.f_ne hx hf) _ _ _ _).alloc _).drew, ?_, hb.size, (((Frm.of_below hb).putS (Or.inr (Or.inl rfl)) _ _ _ _).alloc _).drew⟩
  have k := Blk.new (putS w2 pb p (.int .i64 1) (.int .i64 s) (.slice (some ⟨w2.heap.size, 0, none⟩) K K) (.bool false)) (Array.replicate K (Value.bool false)) 4
  rw [putS_size] at k
  have e : ((List.replicate K false).map Value.bool).toArray = Array.replicate K (Value.bool false) := by simp
  rw [e]
  exact k.drew

set_option maxHeartbeats 8000000 in
set_option maxRecDepth 100000 in
theorem takeCell_any (b pb : Nat) (ub : Nat → Nat) (F G : Int) (pgs : List Pg) (ps : List Bool) (s : Int) (w : World) (h : IsSp w b pb ub F G pgs ps) (s0 : 4 ≤ s) (s1 : s ≤ G / 2) :
    Calls Tryz.prog 153 #[spP b, .int .i64 s] w (TookM b pb ub F G pgs ps w (TakeSA F G ps pgs s)) := by
  have HR := Lib.hid (roomy_any b pb ub F G pgs ps s w h)
  have few := h.p1
  rw [← h.len] at few
  have f0 := h.f0
  have f1 := h.f1
  have g0 := h.g0
  have g1 := h.g1
  have HH := Lib.hid h
  obtain ⟨N, hN⟩ : ∃ N, pgs.length = N := ⟨_, rfl⟩
  rw [hN] at few
  have HN := Lib.hid hN
  clear h hN
  unfold spP at HR ⊢
  go_enter Tryz.func153, Tryz.ntmps153
  go_wp2_with fail
  refine HR.out.mono ?_
  rintro e w1 ⟨u, rfl, hA, b1⟩
  clear HR
  rcases hA with ⟨p, ⟨us, hx, hps, hfm⟩, hq, rfl⟩ | ⟨hq, rfl⟩
  · have hi := HH.out.keep b1
    obtain ⟨y0, y1, y2, y3⟩ := hi.sp.three
    rw [HN.out] at y2
    have hp := (List.getElem?_eq_some_iff.1 hx).1
    rw [HN.out] at hp
    obtain ⟨q, _, d0, d1, d2, d3, df⟩ := hi.at_ hx
    have fb := hi.fl p _ hx rfl
    have fz := (hi.small hx).2.2.2.2.1
    have hI := index_any (ub p) us false w1 fb (by have : us.length ≤ 64 := fz; omega)
    rcases idxI_cases us false with ⟨j, ej, hj, hjm⟩ | ⟨_, hno⟩
    · rw [ej] at hI
      have HI := Lib.hid hI
      have jl := (List.getElem?_eq_some_iff.1 hj).1
      have fj := fb.bools hj
      have ffz := fb.frozen
      have fz : us.length ≤ 64 := fz
      have SF := Lib.hid (hi.setFlag (j := j) hx true (by
        obtain ⟨k1, k2, k3, _⟩ := HH.out.wf.blk p s us hx
        exact HH.out.wf.turn hx (Or.inr ⟨s, us, rfl⟩) (Or.inr ⟨s, _, rfl, k1, k2, by rw [List.length_set]; exact k3, List.mem_set jl true⟩)))
      have FR := Lib.hid ((Frm.of_below (S := SpS b pb ub pgs) b1).setCell (p := ⟨ub p, j, none⟩) (fun _ => Or.inr (Or.inr ⟨p, _, hx, rfl, rfl⟩)) (.bool true))
      have KB := Lib.hid (begin_any b F G p pb _ _ SF.out.sp f0 f1 g0 g1 (by omega) (by omega))
      have d2' : w1.cell? ⟨pb, p * 4 + 2, none⟩ = some (.slice (some ⟨ub p, 0, none⟩) us.length us.length) := d2
      have RR := Lib.hid (show TakeSA F G ps pgs s (yesV (F + p * G + j * s)) (pgs.set p (.blk s (us.set j true))) from Or.inl ⟨p, j, us, hx, hps, hj, hjm, hq, rfl, rfl⟩)
      have SS := Lib.hid (show ∀ k, SpS b pb ub (pgs.set p (.blk s (us.set j true))) k → SpS b pb ub pgs k ∨ w.heap.size ≤ k from fun k hk => by
        rcases hk with rfl | rfl | ⟨i, x, hx2, hf, rfl⟩
        · exact Or.inl (Or.inl rfl)
        · exact Or.inl (Or.inr (Or.inl rfl))
        · by_cases e : i = p
          · subst e; exact Or.inl (Or.inr (Or.inr ⟨i, _, hx, rfl, rfl⟩))
          · rw [List.getElem?_set_ne (by omega)] at hx2; exact Or.inl (Or.inr (Or.inr ⟨i, x, hx2, hf, rfl⟩)))
      have pG := page_in (G := G) (i := p) g0 g1 (by omega) (by omega)
      have js : 0 ≤ (j : Int) * s ∧ (j : Int) * s ≤ 16384 := by
        have h0 : 0 ≤ (j : Int) * s := Int.mul_nonneg (by omega) (by omega)
        have h1 := Int.mul_le_mul_of_nonneg_right (show (j : Int) ≤ 64 by omega) (show 0 ≤ s by omega)
        omega
      unfold spP at KB
      unfold yesV
      clear hI hi hx hps hfm hq hj hjm ej fb d0 d1 d2 d3 y0 y1
      go_wp2_with fail
      refine HI.out.mono ?_
      rintro e w2 ⟨rfl, rfl⟩
      go_wp2_with fail
      refine KB.out.mono ?_
      rintro e w2 ⟨rfl, m2, rfl⟩
      go_wp2
      go_ret2
      exact ⟨_, _, ub, rfl, RR.out, SF.out.keep (below_drewN _ m2), FR.out.drewN m2, SS.out⟩
    · exact absurd hfm hno
  · have HR1 := Lib.hid (row_any b pb ub F G pgs ps 1 w1 (HH.out.keep b1) (by omega) (by omega))
    unfold spP at HR1
    unfold noT
    have NR := Lib.hid hq
    clear hq
    go_wp2_with fail
    refine HR1.out.mono ?_
    rintro e w2 ⟨u, rfl, hA, b2⟩
    clear HR1
    have bb := below_trans b1 b2
    rcases hA with ⟨p, hp, hr, hq, rfl⟩ | ⟨hq, rfl⟩
    · have hx := hr p (Nat.le_refl _) (by omega)
      have R := Lib.hid (show TakeSA F G ps pgs s (yesV (F + p * G)) (pgs.set p (.blk s (us0 (G / s).toNat))) from Or.inr ⟨NR.out, Or.inl ⟨p, hx, fun q hq2 e => hq q hq2 (fun i h1 h2 => (show q = i by omega) ▸ e), rfl, rfl⟩⟩)
      have hi := HH.out.keep bb
      obtain ⟨y0, y1, y2, y3⟩ := hi.sp.three
      rw [HN.out] at y2 hp
      obtain ⟨q, hq3, d0, d1, d2, d3, df⟩ := hi.at_ hx
      have q2 : 2 ≤ G / s := (Int.le_ediv_iff_mul_le (by omega)).2 (by omega)
      have q3 : G / s ≤ G := Int.ediv_le_self s (by omega)
      have ec : cellsI G s = G / s := by rw [cellsI, if_neg (by omega)]
      obtain ⟨K, hK⟩ : ∃ K : Nat, G / s = K := ⟨(G / s).toNat, by omega⟩
      have HC := Lib.hid (fun W => cells_any G s W (by omega))
      rw [ec, hK] at HC
      rw [hK] at q2 q3 R
      rw [Int.toNat_natCast] at R
      have HK := Lib.hid hK
      have bl : b < w2.heap.size := Blk.lt hi.sp
      have pl : pb < w2.heap.size := hi.pg.lt
      have hmk := run_make_bool K (by omega) (by omega)
      have HX := Lib.hid hx
      have p0 : (0 : Int) ≤ p := by omega
      have p1 : (p : Int) < N := by omega
      have NW := Lib.hid (NewI.start (K := K) (s := s) hi bb (p := p) (by rw [HN.out]; omega))
      unfold putS at NW
      unfold yesV
      clear hr hq ec hK hi hq3 hx
      go_wp2_with fail
      go_region_held3 (fun w' => w'.cell? ⟨b, 1, none⟩ = some (.int .i64 G) ∧ w'.cell? ⟨b, 2, none⟩ = some (.slice (some ⟨pb, 0, none⟩) N N)) (first | exact ⟨NW.out.1.three.2.1, HN.out ▸ NW.out.1.three.2.2.1⟩ | go_keep)
        (first
        | (go_at_call 170; refine (HC.out _).mono ?_; rintro e w3 ⟨rfl, rfl⟩))
      all_goals
        generalize World.drew (World.alloc _ _) = W3 at NW ⊢
        have NT := Lib.hid (NW.out.taken HH.out HX.out s0 s1 (by have := HK.out; omega))
        have hI := index_any w2.heap.size (List.replicate K false) false W3 NW.out.2.2.2.1 (by rw [List.length_replicate]; omega)
        rw [idx_new K (by omega), List.length_replicate] at hI
        have HI := Lib.hid hI
        have z2 := NW.out.1.three.2.2.1
        have z3 := NW.out.1.three.2.2.2
        rw [HN.out] at z2
        obtain ⟨k2, kf⟩ := NW.out.cells (by rw [HN.out]; omega)
        have n0 := NW.out.2.2.2.1.bools (i := 0) (x := false) (by rw [List.getElem?_replicate, if_pos (by omega)])
        have nf := NW.out.2.2.2.1.frozen
        have KB := Lib.hid (begin_any b F G p pb _ _ NT.out.1.sp f0 f1 g0 g1 (by omega) (by omega))
        have pG := page_in (G := G) (i := p) g0 g1 (by omega) (by omega)
        unfold spP at KB
        clear hI NW d0 d1 d2 d3 df y0 y1 y2 y3 hmk bl pl
        go_wp2_with fail
        refine HI.out.mono ?_
        rintro e w3 ⟨rfl, rfl⟩
        go_wp2_with fail
        refine KB.out.mono ?_
        rintro e w3 ⟨rfl, m2, rfl⟩
        go_wp2
        go_ret2
        exact ⟨_, _, _, rfl, R.out, NT.out.1.keep (below_drewN _ m2), NT.out.2.1.drewN m2, NT.out.2.2⟩
    · have R := Lib.hid (show TakeSA F G ps pgs s noT pgs from Or.inr ⟨NR.out, Or.inr ⟨fun q e => hq q (by have := (List.getElem?_eq_some_iff.1 e).1; omega) (fun i h1 h2 => (show q = i by omega) ▸ e), rfl, rfl⟩⟩)
      clear hq
      unfold noT
      go_wp2
      go_ret2
      exact ⟨_, pgs, ub, rfl, R.out, HH.out.keep bb, Frm.of_below bb, fun k hk => Or.inl hk⟩
end Go.Proofs.YthmhehehomieiaaGreat

/- Contract of the program's Starts. -/
namespace Go.Proofs.YthmhehehomieiaaGreat
open Go.RowKit

/-- What is so far: the row, and which cells were met. -/
def StI (w0 : Nat) (wr : World) (v : Value) (ys : List Int) (f t : Int) (cs : List Rc) : Prop := OwnI wr w0 v ys ∧ ys = (cs.filter (inR f t)).map Rc.pos

theorem StI.skip {w0 : Nat} {wr : World} {v : Value} {ys : List Int} {f t : Int} {ds cs : List Rc} {j : Nat} {c : Rc} (h : StI w0 wr v ys f t (ds ++ cs.take j)) (hc : cs[j]? = some c) (hn : inR f t c = false) : StI w0 wr v ys f t (ds ++ cs.take (j + 1)) := by
  refine ⟨h.1, ?_⟩
  rw [starts_append, filter_snoc hc, hn, if_neg Bool.false_ne_true, List.append_nil, ← starts_append]
  exact h.2

theorem StI.push {w0 : Nat} {wr w1 : World} {v v1 : Value} {ys : List Int} {f t : Int} {ds cs : List Rc} {j : Nat} {c : Rc} (h : StI w0 wr v ys f t (ds ++ cs.take j)) (hc : cs[j]? = some c) (hn : inR f t c = true) (ho : OwnI w1 w0 v1 (ys ++ [c.pos])) : StI w0 w1 v1 (ys ++ [c.pos]) f t (ds ++ cs.take (j + 1)) := by
  refine ⟨ho, ?_⟩
  rw [starts_append, filter_snoc hc, hn, if_pos rfl, ← List.append_assoc, ← starts_append, ← h.2]

theorem StI.below {w0 : Nat} {wr w1 : World} {v : Value} {ys : List Int} {f t : Int} {cs : List Rc} (h : StI w0 wr v ys f t cs) (b : Below wr.heap.size wr w1) : StI w0 w1 v ys f t cs := ⟨h.1.below b, h.2⟩

/-- The row grows: a block of another type stays. -/
theorem Blk.grown {W w1 : World} {base : Nat} {v : Value} {ys : List Int} {c : Nat} {cs : Array Value} {T : TypeId} (h : Blk W c cs T) (hT : T ≠ 3) (ho : OwnI W base v ys) (hg : W.grownBy w1 v.ownBlock) : Blk w1 c cs T := by
  refine (hg.block c h.lt fun e => ?_).trans h
  rcases ho.2 with ⟨rfl, _⟩ | ⟨g, cap, cur, rfl, _, hB, _⟩
  · simp [Value.ownBlock] at e
  · have hB : Blk W g cur 3 := hB
    have : c = g := by simpa [Value.ownBlock] using e
    subst this
    exact Blk.ne_ h hB hT rfl

set_option maxHeartbeats 8000000 in
set_option maxRecDepth 100000 in
theorem mStarts_any (b pb : Nat) (ub : Nat → Nat) (F G : Int) (pgs : List Pg) (ps : List Bool) (f t : Int) (w : World) (h : IsSp w b pb ub F G pgs ps) :
    Calls Tryz.prog 160 #[spP b, .int .i64 f, .int .i64 t] w fun e w' => ∃ u, e = .returned u ∧ OwnI w' w.heap.size u (startsP F G pgs f t) ∧ Below w.heap.size w w' := by
  have few := h.p1
  rw [← h.len] at few
  have f0 := h.f0
  have f1 := h.f1
  have g0 := h.g0
  have g1 := h.g1
  have HH := Lib.hid h
  have HA := Lib.hid (mAll_any b F G pb pgs.length w h.sp)
  obtain ⟨N, hN⟩ : ∃ N, pgs.length = N := ⟨_, rfl⟩
  rw [hN] at HA few
  have HN := Lib.hid hN
  clear h hN
  obtain ⟨i0, hi, hz, hs, hb⟩ := info_parts info_int
  have HI0 := Lib.hid (And.intro hi (And.intro hz (And.intro hs hb)))
  clear hi hz hs hb
  unfold spP at HA ⊢
  go_enter Tryz.func160, Tryz.ntmps160
  go_wp2_with fail
  refine HA.out.mono ?_
  rintro e w1 ⟨rfl, rfl⟩
  go_wp2_with fail
  go_loopw [7, 16] (fun s7 s16 wr => ∃ (k : Nat) (ys : List Int), k ≤ N ∧ s16 = .int .i64 k ∧ ys.length ≤ 64 * k ∧ Hid (StI w.heap.size wr s7 ys f t (cellsP F G (pgs.take k))) ∧ Below w.heap.size w wr) (fun _ s16 _ => N - (intOf s16).toNat)
  case atStart => exact ⟨0, [], Nat.zero_le _, rfl, Nat.zero_le _, Lib.hid ⟨World.ownsRow_nil _ _ _ _, by rw [List.take_zero]; rfl⟩, Below.refl _ _⟩
  case round =>
    obtain ⟨k, ys, hk, rfl, yl, HY, bb⟩ := hrel
    generalize wr = wo at *
    by_cases hlt : k < N
    · obtain ⟨x, hx⟩ : ∃ x, pgs[k]? = some x := ⟨_, List.getElem?_eq_getElem (by have := HN.out; omega)⟩
      have hi := HH.out.keep bb
      obtain ⟨p, hp, d0, d1, d2, d3, df⟩ := hi.at_ hx
      obtain ⟨_, _, z0, z1, z2, _⟩ := hi.small hx
      have HX := Lib.hid hx
      have kG := page_in (G := G) (i := k) g0 g1 (by omega) (by omega)
      clear hx hp hi
      have B1 := Lib.hid (bb.alloc bb.size (.cells #[.int .i64 x.kind, .int .i64 (x.size G), .slice (x.adr (ub k)) x.flags.length x.flags.length, .bool p] 166))
      have C1 := Lib.hid (Blk.new wo #[.int .i64 x.kind, .int .i64 (x.size G), .slice (x.adr (ub k)) x.flags.length x.flags.length, .bool p] 166)
      have Y1 := Lib.hid (HY.out.below ((Below.refl _ wo).alloc (Nat.le_refl _) (.cells #[.int .i64 x.kind, .int .i64 (x.size G), .slice (x.adr (ub k)) x.flags.length x.flags.length, .bool p] 166)))
      clear bb HY
      go_wp2_with fail
      clear d0 d1 d2 d3 df
      go_loopw [7, 24] (fun s7 s24 wi => ∃ (j : Nat) (zs : List Int), j ≤ x.flags.length ∧ s24 = .int .i64 j ∧ zs.length ≤ 64 * k + j ∧ Hid (StI w.heap.size wi s7 zs f t (cellsP F G (pgs.take k) ++ (x.cells F G k).take j)) ∧ Hid (Blk wi wo.heap.size #[.int .i64 x.kind, .int .i64 (x.size G), .slice (x.adr (ub k)) x.flags.length x.flags.length, .bool p] 166) ∧ Below w.heap.size w wi) (fun _ s24 _ => x.flags.length - (intOf s24).toNat)
      case atStart => exact ⟨0, ys, Nat.zero_le _, rfl, by omega, Lib.hid (by rw [List.take_zero, List.append_nil]; exact Y1.out), C1, B1.out⟩
      case round =>
        clear B1 C1 Y1
        obtain ⟨j, zs, hj, rfl, zl, HZ, HC, bb⟩ := hrel
        by_cases jlt : j < x.flags.length
        · have hi := HH.out.keep bb
          obtain ⟨y, hy, ea, e4, e5⟩ := hi.flag HX.out jlt
          have c1 := HC.out.cell 1
          have cf := HC.out.frozen
          have KB := Lib.hid (fun m => begin_any b F G k pb pgs.length (wr.drewN m) (hi.keep (below_drewN _ m)).sp f0 f1 g0 g1 (by omega) (by omega))
          unfold spP at KB
          have hcell := Lib.hid (Pg.cells_at F G k x jlt)
          have js : 0 ≤ (j : Int) * x.size G ∧ (j : Int) * x.size G ≤ 1048576 := by
            have h0 : 0 ≤ (j : Int) * x.size G := Int.mul_nonneg (by omega) z0
            have h1 := Int.mul_le_mul_of_nonneg_right (show (j : Int) ≤ 64 by omega) z0
            omega
          have hu := Lib.hid (show (x.cell F G k j).used = y from by show x.flags.getD j false = y; rw [List.getD_eq_getElem?_getD, hy]; rfl)
          have hw1 : IntKind.i64.wrap ((j : Int) * x.size G) = (j : Int) * x.size G := IntWalk.i64_in _ (by omega)
          obtain ⟨A, hA⟩ : ∃ A, F + (k : Int) * G + (j : Int) * x.size G = A := ⟨_, rfl⟩
          have a0 : 0 ≤ A := by omega
          have a1 : A ≤ 4000000 := by omega
          have hw2 : IntKind.i64.wrap (F + (k : Int) * G + (j : Int) * x.size G) = A := by rw [hA]; exact IntWalk.i64_in _ (by omega)
          have hpos := Lib.hid (show (x.cell F G k j).pos = A from hA)
          have jl2 : (j : Int) < (x.flags.length : Int) := by omega
          have c1 : wr.cell? ⟨wo.heap.size, 1, none⟩ = some (.int .i64 (x.size G)) := c1
          clear hy hi hA
          rw [ea]
          rw [ea] at HC
          clear ea
          go_wp2_with fail
          go_big_quiet ((go_at_call 165; refine Calls.quiet_of (KB.out _)))
          generalize hW : wr.drewN _ = W2
          have b2 : Below wr.heap.size wr W2 := hW ▸ below_drewN wr _
          have HZ2 := Lib.hid (HZ.out.below b2)
          have HC2 := Lib.hid (HC.out.keep b2)
          have BB := Lib.hid (below_trans bb b2)
          clear hW b2 c1 cf KB e4 e5 hw1 hw2 HZ HC bb js
          cases y
          · have R := Lib.hid (HZ2.out.skip hcell.out (by rw [inR, hu.out]; rfl))
            go_wp2
            go_roundw
            case rel => exact ⟨j + 1, zs, by omega, by go_num, by omega, R, HC2, BB.out⟩
            case measure => simp [intOf]; omega
          · by_cases q1 : f ≤ A
            · by_cases q2 : A < t
              · have inn := Lib.hid (show inR f t (x.cell F G k j) = true from by rw [inR, hu.out, hpos.out, decide_eq_true q1, decide_eq_true q2]; rfl)
                obtain ⟨bo, bcap, eo, _⟩ := HZ2.out.1.at_
                subst eo
                have O2 := Lib.hid (HZ2.out.1.alloc (.cells #[.int .i64 A] 3))
                have B2 := Lib.hid (BB.out.alloc BB.out.size (.cells #[.int .i64 A] 3))
                have C2 := Lib.hid (HC2.out.alloc (.cells #[.int .i64 A] 3))
                go_wp2_with (first
                  | (at_builtin; (refine wpList_append_own_at _ rfl _ _ 39 rfl w.heap.size 3 i0 (.int .i64 0) 1 8 Tryz.underlying39 HI0.out.1 HI0.out.2.1 HI0.out.2.2.1 HI0.out.2.2.2 rfl (by decide) _ _ _ rfl O2.out ⟨W2.heap.size, 0, none⟩ 1 1 [.int .i64 A] rfl rfl ?c1 ?c2 ?c3 ?c4 ?c5 ?_))
                  | fail)
                case c1 => exact fun j u hj => by have := cell_one_new W2 (.int .i64 A) 3 j u hj; simpa using this
                case c2 => intro x hx; simp at hx; subst hx; rfl
                case c3 => unfold maxLen; omega
                case c4 => omega
                case c5 => exact B2.out.size
                intro v1 w1 hown1 hgrow1 _ _
                have b1 := Lib.hid (below_grown B2.out O2.out hgrow1)
                have cc := Lib.hid (C2.out.grown (by decide) O2.out hgrow1)
                have o1 := OwnI.snoc hown1
                have R := Lib.hid (HZ2.out.push hcell.out inn.out (by rw [hpos.out]; exact o1))
                rw [hpos.out] at R
                obtain ⟨bo1, cap1, e1, _⟩ := o1.at_
                subst e1
                clear hown1 hgrow1 o1 O2 B2 C2 HZ2 HC2 BB
                go_wp2
                go_roundw
                case rel => exact ⟨j + 1, zs ++ [A], by omega, by go_num, by rw [List.length_append, List.length_singleton]; omega, R, cc, b1.out⟩
                case measure => simp [intOf]; omega
              · have R := Lib.hid (HZ2.out.skip hcell.out (by rw [inR, hpos.out, decide_eq_false q2, Bool.and_false]))
                go_wp2
                go_roundw
                case rel => exact ⟨j + 1, zs, by omega, by go_num, by omega, R, HC2, BB.out⟩
                case measure => simp [intOf]; omega
            · have R := Lib.hid (HZ2.out.skip hcell.out (by rw [inR, hpos.out, decide_eq_false q1, Bool.and_false, Bool.false_and]))
              go_wp2
              go_roundw
              case rel => exact ⟨j + 1, zs, by omega, by go_num, by omega, R, HC2, BB.out⟩
              case measure => simp [intOf]; omega
        · obtain rfl : j = x.flags.length := by omega
          have R := Lib.hid (show StI w.heap.size wr _ zs f t (cellsP F G (pgs.take (k + 1))) from by
            have h := HZ.out
            rw [← Pg.cells_length F G k x, List.take_length, ← cellsP_take F G HX.out] at h
            exact h)
          go_wp2
          go_roundw
          case rel => exact ⟨k + 1, zs, by omega, by go_num, by omega, R, bb⟩
          case measure => simp [intOf]; omega
    · obtain rfl : k = N := by omega
      have D := Lib.hid (show OwnI wo w.heap.size _ (startsP F G pgs f t) from by
        have h := HY.out
        rw [← HN.out, List.take_length] at h
        have e := h.2
        rw [startsP, ← e]
        exact h.1)
      go_wp2
      go_ret
      exact ⟨_, rfl, D.out, bb⟩
end Go.Proofs.YthmhehehomieiaaGreat

/- Contracts of the program's Free, Pending, Page. -/
namespace Go.Proofs.YthmhehehomieiaaGreat
open Go.RowKit

theorem kind_free (x : Pg) : (x.kind = 0) = (x.isFree = true) := by cases x <;> simp [Pg.kind, Pg.isFree]

end Go.Proofs.YthmhehehomieiaaGreat

/- Contracts of the program's Take and New; and the program's space has all that is asked of it. -/
namespace Go.Proofs.YthmhehehomieiaaGreat
open Go.RowKit

set_option maxHeartbeats 4000000 in
theorem mTake_any (b pb : Nat) (ub : Nat → Nat) (F G : Int) (pgs : List Pg) (ps : List Bool) (n : Int) (w : World) (h : IsSp w b pb ub F G pgs ps) (n1 : n ≤ 9223372036854775807) :
    Calls Tryz.prog 119 #[spP b, .int .i64 n] w (TookM b pb ub F G pgs ps w (TakeA F G ps pgs n)) := by
  have HH := Lib.hid h
  obtain ⟨c0, c1, c2, cf⟩ := h.sp.three
  have g0 := h.g0
  have g1 := h.g1
  by_cases hn : n < 1
  · have R := Lib.hid (show TakeA F G ps pgs n noT pgs from Or.inl ⟨hn, rfl, rfl⟩)
    clear h c0 c1 c2
    unfold spP
    go_enter Tryz.func119, Tryz.ntmps119
    go_wp2
    go_ret2
    exact ⟨_, pgs, ub, rfl, R.out, HH.out, Frm.refl _ _, fun k hk => Or.inl hk⟩
  · have hd : largeB G n = decide (G / 2 < roundI n) := by rw [largeB, tdiv_of (by omega)]
    have hL := large_any G n w (by omega) (by omega)
    rw [hd] at hL
    by_cases hl : G / 2 < roundI n
    · have he := pagesI_enough (p := G) (n := n) g0 (by omega)
      rw [decide_eq_true hl] at hL
      obtain ⟨C, hC⟩ : ∃ C : Nat, pagesI G n = C := ⟨(pagesI G n).toNat, by omega⟩
      have hP := pages_any G n w n1
      rw [hC] at hP
      have hT := takePages_any b pb ub F G pgs ps C w h (by omega) (by omega)
      have W := Lib.hid (show ∀ u pgs', TakeLA F G pgs C u pgs' → TakeA F G ps pgs n u pgs' from fun u pgs' ht => Or.inr (Or.inl ⟨hn, hl, by rw [hC, Int.toNat_natCast]; exact ht⟩))
      have HL := Lib.hid hL
      have HP := Lib.hid hP
      have HT := Lib.hid hT
      clear h c0 c2 hL hP hT he hC hd hl
      unfold spP at HT ⊢
      go_enter Tryz.func119, Tryz.ntmps119
      go_wp2_with fail
      refine HL.out.mono ?_
      rintro e w1 ⟨rfl, rfl⟩
      go_wp2_with fail
      refine HP.out.mono ?_
      rintro e w1 ⟨rfl, rfl⟩
      go_wp2_with fail
      refine HT.out.mono ?_
      rintro e w1 ⟨u, pgs', ub', rfl, ht, hi, hf, hs⟩
      have HI := Lib.hid (And.intro (W.out u pgs' ht) (And.intro hi (And.intro hf hs)))
      have hu : (∃ x y, u = .tuple #[.int .i64 x, .bool y]) := by
        rcases ht with ⟨p, _, _, _, rfl, _⟩ | ⟨_, rfl, _⟩
        · exact ⟨_, _, rfl⟩
        · exact ⟨_, _, rfl⟩
      obtain ⟨x, y, rfl⟩ := hu
      clear ht hi hf hs
      go_wp2
      go_ret2
      exact ⟨_, pgs', ub', rfl, HI.out.1, HI.out.2.1, HI.out.2.2.1, HI.out.2.2.2⟩
    · rw [decide_eq_false hl] at hL
      have hT := takeCell_any b pb ub F G pgs ps (roundI n) w h (roundI_in n).1 (by omega)
      have W := Lib.hid (show ∀ u pgs', TakeSA F G ps pgs (roundI n) u pgs' → TakeA F G ps pgs n u pgs' from fun u pgs' ht => Or.inr (Or.inr ⟨hn, hl, ht⟩))
      have HL := Lib.hid hL
      have HT := Lib.hid hT
      clear h c0 c2 hL hT hd hl
      unfold spP at HT ⊢
      go_enter Tryz.func119, Tryz.ntmps119
      go_wp2_with fail
      refine HL.out.mono ?_
      rintro e w1 ⟨rfl, rfl⟩
      go_wp2_with fail
      refine (round_any n w).mono ?_
      rintro e w1 ⟨rfl, rfl⟩
      go_wp2_with fail
      refine HT.out.mono ?_
      rintro e w1 ⟨u, pgs', ub', rfl, ht, hi, hf, hs⟩
      have HI := Lib.hid (And.intro (W.out u pgs' ht) (And.intro hi (And.intro hf hs)))
      have hu : (∃ x y, u = .tuple #[.int .i64 x, .bool y]) := by
        rcases ht with ⟨p, j, us, _, _, _, _, _, rfl, _⟩ | ⟨_, ⟨p, _, _, rfl, _⟩ | ⟨_, rfl, _⟩⟩
        · exact ⟨_, _, rfl⟩
        · exact ⟨_, _, rfl⟩
        · exact ⟨_, _, rfl⟩
      obtain ⟨x, y, rfl⟩ := hu
      clear ht hi hf hs
      go_wp2
      go_ret2
      exact ⟨_, pgs', ub', rfl, HI.out.1, HI.out.2.1, HI.out.2.2.1, HI.out.2.2.2⟩

theorem info_state : (Tryz.prog.info? 166).map (fun i => (i.zero, i.size, i.bytes)) = some (some (.agg #[.int .i64 0, .int .i64 0, .slice none 0 0, .bool false]), 4, 48) := by kernel_rfl

theorem madeS (n : Nat) : madeCells (Value.agg #[.int .i64 0, .int .i64 0, .slice none 0 0, .bool false]).cells (n * 4) = (flat4 n fun _ => zero4).toArray := by
  apply Array.ext'
  refine flat4_ext (fun _ => rfl) (by simp [madeCells]) fun i j hi hj => ?_
  have hm : (i * 4 + j) % 4 = j := by omega
  have hlt : i * 4 + j < n * 4 := by omega
  simp only [madeCells, Value.cells, Array.getElem?_toList, Array.getElem?_map, Array.getElem?_range, hlt, if_true, Option.map_some]
  show some (#[Value.int .i64 0, .int .i64 0, .slice none 0 0, .bool false][(i * 4 + j) % 4]!) = _
  rw [hm]
  obtain rfl | rfl | rfl | rfl : j = 0 ∨ j = 1 ∨ j = 2 ∨ j = 3 := by omega
  all_goals rfl

/-- Pages that are made. -/
theorem run_make_state (n : Int) (h0 : 0 ≤ n) (h1 : n ≤ 64) (w : World) :
    (Instr.makeSlice 159 (.int .i64 n) (.int .i64 n)).run Tryz.prog w = .ok (.slice (some ⟨w.heap.size, 0, none⟩) n.toNat n.toNat) (w.alloc (.cells (flat4 n.toNat fun _ => zero4).toArray 166)) := by
  obtain ⟨i, hi, hz, hs, hb⟩ := info_parts info_state
  have h := run_make (P := Tryz.prog) w 159 166 i _ Tryz.underlying159 hi hz .i64 .i64 n n h0 (Int.le_refl _) (by rw [hb]; omega) (by omega)
  rw [hs, madeS] at h
  exact h

set_option maxHeartbeats 4000000 in
theorem mNew_any (f p g : Int) (w : World) :
    Calls Tryz.prog 64 #[.int .i64 f, .int .i64 p, .int .i64 g] w fun e w' => e = .returned (spP (w.heap.size + 1)) ∧
      IsSp w' (w.heap.size + 1) w.heap.size (fun _ => 0) (cutI f 0 1048576) (cutI g 1 256) (List.replicate (cutI p 0 64).toNat .free) (List.replicate (cutI p 0 64).toNat false) ∧ Below w.heap.size w w' := by
  have hF := nearest_any f 0 1048576 w (by omega)
  have hP := nearest_any p 0 64 w (by omega)
  have hG := nearest_any g 1 256 w (by omega)
  have iF := cutI_in (n := f) (l := 0) (m := 1048576) (by omega)
  have iP := cutI_in (n := p) (l := 0) (m := 64) (by omega)
  have iG := cutI_in (n := g) (l := 1) (m := 256) (by omega)
  obtain ⟨F, eF⟩ : ∃ F, cutI f 0 1048576 = F := ⟨_, rfl⟩
  obtain ⟨P, eP⟩ : ∃ P, cutI p 0 64 = P := ⟨_, rfl⟩
  obtain ⟨G, eG⟩ : ∃ G, cutI g 1 256 = G := ⟨_, rfl⟩
  rw [eF] at hF iF ⊢
  rw [eP] at hP iP ⊢
  rw [eG] at hG iG ⊢
  clear eF eP eG
  obtain ⟨N, rfl⟩ : ∃ N : Nat, P = N := ⟨P.toNat, by omega⟩
  have hmk := run_make_state N (by omega) (by omega)
  rw [Int.toNat_natCast] at hmk ⊢
  have HF := Lib.hid hF
  have HP := Lib.hid hP
  have HG := Lib.hid hG
  have no : ∀ (i : Nat) (x : Pg), (List.replicate N Pg.free)[i]? = some x → x = .free := fun i x h => by
    rw [List.getElem?_replicate] at h
    split at h
    · cases h; rfl
    · cases h
  have NO := Lib.hid no
  clear hF hP hG no
  go_enter Tryz.func64, Tryz.ntmps64
  go_wp2_with fail
  refine HF.out.mono ?_
  rintro e w1 ⟨rfl, rfl⟩
  go_wp2_with fail
  refine HG.out.mono ?_
  rintro e w1 ⟨rfl, rfl⟩
  go_wp2_with fail
  refine HP.out.mono ?_
  rintro e w1 ⟨rfl, rfl⟩
  go_wp2
  go_ret
  refine ⟨rfl, ⟨?_, ?_, fun i x hx hf => ?_, fun i j x y hx hy hf => ?_, fun i hi => ?_, (Rel.new F G N).wf, by rw [List.length_replicate, List.length_replicate], iF.1, iF.2, iG.1, iG.2, by rw [List.length_replicate]; omega⟩, ((Below.refl _ _).alloc (Nat.le_refl _) _).alloc (by simp) _⟩
  · rw [List.length_replicate]
    have h := Blk.new (w.alloc (.cells (flat4 N fun _ => zero4).toArray 166)) #[.int .i64 F, .int .i64 G, .slice (some ⟨w.heap.size, 0, none⟩) N N] 161
    have e : (w.alloc (.cells (flat4 N fun _ => zero4).toArray 166)).heap.size = w.heap.size + 1 := by simp
    rw [e] at h
    exact h
  · rw [List.length_replicate]
    have e : flat4 N (stF G (List.replicate N .free) (fun _ => 0) (List.replicate N false)) = flat4 N fun _ => zero4 := flat4_congr fun i hi => by
      rw [stF_at (x := .free) (q := false) (by rw [List.getElem?_replicate, if_pos hi]) (by rw [List.getElem?_replicate, if_pos hi])]
      rfl
    rw [e]
    exact (Blk.new w _ _).alloc _
  · rw [NO.out i x hx] at hf; cases hf
  · rw [NO.out i x hx] at hf; cases hf
  · rw [List.getElem?_replicate] at hi
    split at hi
    · cases hi
    · cases hi

end Go.Proofs.YthmhehehomieiaaGreat
