/- The document's space, said of pages: what lies in memory, and the contracts of its calls. -/
import Derived.Test.YtinoeofimajpdaaPgF
namespace Go.Proofs.Ytinoeofimajpdaa
open Go.RowKit

/-- The document's space lies in block a, its flags in block pb, its cells in v's row: they are those of the pages. -/
def IsRef (w : World) (a pb : Nat) (F G : Int) (v : Value) (pgs : List Pg) (ps : List Bool) : Prop :=
  ∃ cs, IsRf w a F ps.length G v cs pb ps ∧ Rel F G cs pgs ∧ pgs.length = ps.length

theorem cellsP_few {F G : Int} {pgs : List Pg} (g1 : G ≤ 256) (wf : WF G pgs) : (cellsP F G pgs).length ≤ pgs.length * 64 := by
  unfold cellsP
  rw [List.length_flatMap]
  have one : ∀ i ∈ List.range pgs.length, ((pgs.getD i .free).cells F G i).length ≤ 64 := fun i hi => by
    have hi := List.mem_range.1 hi
    have hx : pgs[i]? = some pgs[i] := List.getElem?_eq_getElem hi
    rw [List.getD_eq_getElem?_getD, hx, Option.getD_some]
    generalize pgs[i] = x at hx
    cases x with
    | free => simp [Pg.cells]
    | rest => simp [Pg.cells]
    | big m => simp [Pg.cells]
    | blk s us =>
      obtain ⟨s0, s1, hl, _⟩ := wf.blk i s us hx
      have h1 : G / s ≤ G / 4 := by
        refine Int.le_ediv_of_mul_le (by omega) ?_
        have h1 := Int.mul_le_mul_of_nonneg_left s0 (show 0 ≤ G / s by omega)
        have h2 := Int.ediv_mul_le G (show s ≠ 0 by omega)
        omega
      show ((List.range us.length).map _).length ≤ 64
      rw [List.length_map, List.length_range]
      omega
  have sum : ∀ l : List Nat, (∀ i ∈ l, ((pgs.getD i .free).cells F G i).length ≤ 64) → (l.map fun i => ((pgs.getD i .free).cells F G i).length).sum ≤ l.length * 64 := by
    intro l
    induction l with
    | nil => intro _; simp
    | cons i l ih =>
      intro h
      have h1 := h i (List.mem_cons_self ..)
      have h2 := ih fun k hk => h k (List.mem_cons_of_mem _ hk)
      simp only [List.map_cons, List.sum_cons, List.length_cons]
      omega
  have := sum _ one
  rwa [List.length_range] at this

theorem Rel.pages {F G : Int} {cs : List Rc} {pgs : List Pg} (g0 : 1 ≤ G) (h : Rel F G cs pgs) {N : Nat} (hN : pgs.length = N) : ∀ c ∈ cs, 0 ≤ ofI F G c.pos ∧ ofI F G c.pos < N := fun c hc => by
  obtain ⟨i, x, hx, hcx⟩ := mem_cellsP.1 (h.perm.mem_iff.1 hc)
  have := (cell_pages g0 h.wf hx hcx).1
  have := (List.getElem?_eq_some_iff.1 hx).1
  omega

theorem Rel.few {F G : Int} {cs : List Rc} {pgs : List Pg} (g1 : G ≤ 256) (h : Rel F G cs pgs) (hN : pgs.length ≤ 64) : cs.length ≤ 900000 := by
  have := cellsP_few (F := F) g1 h.wf
  rw [h.perm.length_eq]
  omega

theorem IsRef.keep {w w' : World} {a pb : Nat} {F G : Int} {v : Value} {pgs : List Pg} {ps : List Bool} (h : IsRef w a pb F G v pgs ps) (b : Below w.heap.size w w') : IsRef w' a pb F G v pgs ps :=
  let ⟨cs, h1, h2, h3⟩ := h
  ⟨cs, h1.keep b, h2, h3⟩

theorem pNew_any (f p g : Int) (w : World) :
    Calls Try.prog 9 #[.int .i64 f, .int .i64 p, .int .i64 g] w fun e w' => e = .returned (spP w.heap.size) ∧
      IsRef w' w.heap.size (w.heap.size + 1) (cutI f 0 1048576) (cutI g 1 256) (.slice none 0 0) (List.replicate (cutI p 0 64).toNat .free) (List.replicate (cutI p 0 64).toNat false) ∧ Below w.heap.size w w' :=
  (refNew_any f p g w).mono fun e w' ⟨he, h, b⟩ => ⟨he, ⟨[], by
    have := cutI_in (n := p) (l := 0) (m := 64) (by omega)
    rw [List.length_replicate, Int.toNat_of_nonneg this.1]
    exact h, Rel.new .., by rw [List.length_replicate, List.length_replicate]⟩, b⟩

/-- Take, as the document says it of pages. -/
def TakeA (F G : Int) (ps : List Bool) (pgs : List Pg) (n : Int) (e : Value) (pgs' : List Pg) : Prop :=
  (n < 1 ∧ e = noV ∧ pgs' = pgs) ∨ (¬ n < 1 ∧ G / 2 < roundI n ∧ TakeLA F G pgs (pagesI G n).toNat e pgs') ∨ (¬ n < 1 ∧ ¬ G / 2 < roundI n ∧ TakeSA F G ps pgs (roundI n) e pgs')

theorem TakeA.one {F G : Int} {ps : List Bool} {pgs qs rs : List Pg} {n : Int} {d e : Value} (h : TakeA F G ps pgs n d qs) (k : TakeA F G ps pgs n e rs) : d = e ∧ qs = rs := by
  rcases h with ⟨a1, rfl, rfl⟩ | ⟨a1, a2, a3⟩ | ⟨a1, a2, a3⟩ <;> rcases k with ⟨b1, rfl, rfl⟩ | ⟨b1, b2, b3⟩ | ⟨b1, b2, b3⟩
  · exact ⟨rfl, rfl⟩
  · exact absurd a1 b1
  · exact absurd a1 b1
  · exact absurd b1 a1
  · exact a3.one b3
  · exact absurd a2 b2
  · exact absurd b1 a1
  · exact absurd b2 a2
  · exact a3.one b3

/-- How Take of the document's space ends. -/
def TookP (a pb : Nat) (F G : Int) (v : Value) (ps : List Bool) (w : World) (T : Value → List Pg → Prop) (e : Ending) (w' : World) : Prop :=
  ∃ u pgs' v', e = .returned u ∧ T u pgs' ∧ IsRef w' a pb F G v' pgs' ps ∧ Frm (Rf a pb v) w w' ∧ (v'.ownBlock = v.ownBlock ∨ ∀ k, v'.ownBlock = some k → w.heap.size ≤ k)

theorem TakeLA.length {F G : Int} {pgs pgs' : List Pg} {C : Nat} {e : Value} (h : TakeLA F G pgs C e pgs') : pgs'.length = pgs.length := by
  rcases h with ⟨p, _, _, _, _, rfl⟩ | ⟨_, _, rfl⟩
  · rw [bigAt, List.length_set, fill_length]
  · rfl

theorem TakeSA.length {F G : Int} {ps : List Bool} {pgs pgs' : List Pg} {s : Int} {e : Value} (h : TakeSA F G ps pgs s e pgs') : pgs'.length = pgs.length := by
  rcases h with ⟨p, j, us, _, _, _, _, _, _, rfl⟩ | ⟨_, ⟨p, _, _, _, rfl⟩ | ⟨_, _, rfl⟩⟩
  · rw [List.length_set]
  · rw [List.length_set]
  · rfl

theorem pTake_any (a pb : Nat) (F G n : Int) (v : Value) (pgs : List Pg) (ps : List Bool) (w : World) (h : IsRef w a pb F G v pgs ps) (n1 : n ≤ 9223372036854775807) :
    Calls Try.prog 11 #[spP a, .int .i64 n] w fun e w' => TookP a pb F G v ps w (TakeA F G ps pgs n) e w' := by
  obtain ⟨cs, h1, h2, h3⟩ := h
  have g0 := h1.g0
  have few := h2.few h1.g1 (by have := h1.p1; omega)
  have hpg := h2.pages g0 h3
  by_cases hn : n < 1
  · exact (refTake_none a n w hn).mono fun e w' ⟨he, hw⟩ => ⟨_, pgs, v, he, Or.inl ⟨hn, rfl, rfl⟩, by subst hw; exact ⟨cs, h1, h2, h3⟩, by subst hw; exact Frm.refl _ _, Or.inl rfl⟩
  · by_cases hl : G / 2 < roundI n
    · refine (refTake_large a F _ G n v cs pb ps w h1 hn n1 hl few).mono ?_
      rintro e w' ⟨u, cs', v', he, ht, hi, hf, ho⟩
      rw [← h3] at ht
      have := pagesI_enough (p := G) (n := n) g0 (by omega)
      obtain ⟨pgs', t1, t2⟩ := takeL_pages g0 h2 (by omega) ht
      exact ⟨u, pgs', v', he, Or.inr (Or.inl ⟨hn, hl, t1⟩), ⟨cs', hi, t2, by rw [t1.length]; exact h3⟩, hf, ho⟩
    · refine (refTake_small a F _ G n v cs pb ps w h1 hn hl few hpg).mono ?_
      rintro e w' ⟨u, cs', v', he, ht, hi, hf, ho⟩
      rw [← h3] at ht
      obtain ⟨pgs', t1, t2⟩ := takeS_pages g0 h2 h3.symm (roundI_in n).1 (by omega) ht
      exact ⟨u, pgs', v', he, Or.inr (Or.inr ⟨hn, hl, t1⟩), ⟨cs', hi, t2, by rw [t1.length]; exact h3⟩, hf, ho⟩

theorem GiveA.length {F G : Int} {ps ps' : List Bool} {pgs pgs' : List Pg} {n : Int} {ok : Bool} (h : GiveA F G ps pgs n ok pgs' ps') : pgs'.length = pgs.length ∧ ps'.length = ps.length := by
  rcases h with ⟨_, _, rfl, rfl⟩ | ⟨p, j, s, us, _, _, _, _, ⟨_, rfl, rfl⟩ | ⟨_, rfl, rfl⟩⟩ | ⟨p, c, _, _, _, rfl, rfl⟩
  · exact ⟨rfl, rfl⟩
  · exact ⟨List.length_set .., rfl⟩
  · exact ⟨List.length_set .., List.length_set ..⟩
  · exact ⟨fill_length .., List.length_set ..⟩

/-- How Give of the document's space ends. -/
def GaveP (a pb : Nat) (F G : Int) (v : Value) (w : World) (T : Bool → List Pg → List Bool → Prop) (e : Ending) (w' : World) : Prop :=
  ∃ ok pgs' ps' v', e = .returned (.bool ok) ∧ T ok pgs' ps' ∧ IsRef w' a pb F G v' pgs' ps' ∧ Frm (Rf a pb v) w w' ∧ (v'.ownBlock = v.ownBlock ∨ ∀ k, v'.ownBlock = some k → w.heap.size ≤ k)

theorem pGive_any (a pb : Nat) (F G n : Int) (v : Value) (pgs : List Pg) (ps : List Bool) (w : World) (h : IsRef w a pb F G v pgs ps) :
    Calls Try.prog 13 #[spP a, .int .i64 n] w fun e w' => GaveP a pb F G v w (GiveA F G ps pgs n) e w' := by
  obtain ⟨cs, h1, h2, h3⟩ := h
  have g0 := h1.g0
  refine (refGive_any a F _ G n v cs pb ps w h1 (h2.pages g0 h3)).mono ?_
  rintro e w' ⟨he, v', hi, hf, ho⟩
  obtain ⟨pgs', t1, t2⟩ := give_pages g0 h2 ps n
  have hl := t1.length
  refine ⟨_, pgs', giveP F G n cs ps, v', he, t1, ⟨giveC F G n cs, ?_, t2, by omega⟩, hf, ho⟩
  rw [hl.2]
  exact hi

theorem pSize_any (a pb : Nat) (F G n : Int) (v : Value) (pgs : List Pg) (ps : List Bool) (w : World) (h : IsRef w a pb F G v pgs ps) :
    Calls Try.prog 44 #[spP a, .int .i64 n] w fun e w' => e = .returned (sizeV (cellsP F G pgs) n) ∧ w = w' := by
  obtain ⟨cs, h1, h2, h3⟩ := h
  have e : sizeV cs n = sizeV (cellsP F G pgs) n := by rw [sizeV, find_eq h1.g0 h2 n]; rfl
  rw [← e]
  exact refSize_any a F _ G n v cs pb ps w h1

theorem pStarts_any (a pb : Nat) (F G f t : Int) (v : Value) (pgs : List Pg) (ps : List Bool) (w : World) (h : IsRef w a pb F G v pgs ps) :
    Calls Try.prog 17 #[spP a, .int .i64 f, .int .i64 t] w fun e w' => ∃ u, e = .returned u ∧ OwnI w' w.heap.size u (startsP F G pgs f t) ∧ Below w.heap.size w w' := by
  obtain ⟨cs, h1, h2, h3⟩ := h
  refine (refStarts_any a F _ G f t v cs pb ps w h1).mono ?_
  rintro e w' ⟨u, ys, he, ho, hs, hp, b⟩
  rw [starts_eq h1.g0 h2 hs hp] at ho
  exact ⟨u, he, ho, b⟩

theorem pPend_any (a pb : Nat) (F G : Int) (v : Value) (pgs : List Pg) (ps : List Bool) (w : World) (h : IsRef w a pb F G v pgs ps) :
    Calls Try.prog 15 #[spP a] w fun e w' => e = .returned (.tuple #[]) ∧ IsRef w' a pb F G v pgs (pgs.map Pg.first) ∧ Frm (· = pb) w w' := by
  obtain ⟨cs, h1, h2, h3⟩ := h
  refine (refPend_any a F _ G v cs pb ps w h1).mono ?_
  rintro e w' ⟨he, hi, hf⟩
  rw [← h3, pend_eq h1.g0 h2, h3] at hi
  exact ⟨he, ⟨cs, by rw [List.length_map, h3]; exact hi, h2, (List.length_map ..).symm⟩, hf⟩

theorem pCount_any (a pb : Nat) (F G : Int) (v : Value) (pgs : List Pg) (ps : List Bool) (w : World) (h : IsRef w a pb F G v pgs ps) :
    Calls Try.prog 43 #[spP a] w fun e w' => e = .returned (.tuple #[.int .i64 (pgs.countP Pg.isFree : Nat), .int .i64 (usedI (cellsP F G pgs))]) ∧ Below w.heap.size w w' := by
  obtain ⟨cs, h1, h2, h3⟩ := h
  refine (count_any a F _ G v cs pb ps w h1).mono ?_
  rintro e w' ⟨he, b⟩
  refine ⟨?_, b⟩
  rw [he, usedI_perm h2.perm, freesI_eq h1.g0 h2 (by omega), ← h3, List.take_length]
end Go.Proofs.Ytinoeofimajpdaa
