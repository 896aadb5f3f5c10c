/- Take and Give, as the document says them of pages; that they have one answer; and that the document's own space does just that. Of numbers and lists alone. -/
import Derived.Test.YtinoeofimajpdaaPgD
namespace Go.Proofs.Ytinoeofimajpdaa

def Run (pgs : List Pg) (p C : Nat) : Prop := ∀ i : Nat, p ≤ i → i < p + C → pgs[i]? = some .free

def noV : Value := .tuple #[.int .i64 0, .bool false]
def yesV (n : Int) : Value := .tuple #[.int .i64 n, .bool true]

/-- Take of C pages. -/
def TakeLA (F G : Int) (pgs : List Pg) (C : Nat) (e : Value) (pgs' : List Pg) : Prop :=
  (∃ p : Nat, p + C ≤ pgs.length ∧ Run pgs p C ∧ (∀ q : Nat, q < p → ¬ Run pgs q C) ∧ e = yesV (F + p * G) ∧ pgs' = bigAt pgs p C) ∨
  ((∀ q : Nat, q + C ≤ pgs.length → ¬ Run pgs q C) ∧ e = noV ∧ pgs' = pgs)

theorem TakeLA.one {F G : Int} {pgs qs rs : List Pg} {C : Nat} {d e : Value} (h : TakeLA F G pgs C d qs) (k : TakeLA F G pgs C e rs) : d = e ∧ qs = rs := by
  rcases h with ⟨p, a1, a2, a3, rfl, rfl⟩ | ⟨a1, rfl, rfl⟩ <;> rcases k with ⟨q, b1, b2, b3, rfl, rfl⟩ | ⟨b1, rfl, rfl⟩
  · obtain rfl : p = q := by
      rcases Nat.lt_trichotomy p q with l | l | l
      · exact absurd a2 (b3 p l)
      · exact l
      · exact absurd b2 (a3 q l)
    exact ⟨rfl, rfl⟩
  · exact absurd a2 (b1 p a1)
  · exact absurd b2 (a1 q b1)
  · exact ⟨rfl, rfl⟩

theorem runB_iff {F G : Int} {cs : List Rc} {pgs : List Pg} (g0 : 1 ≤ G) (h : Rel F G cs pgs) {p C : Nat} (hC : p + C ≤ pgs.length) : runB F G cs p C = true ↔ Run pgs p C := by
  rw [runB, List.all_eq_true]
  constructor
  · intro a i i1 i2
    have := a (i - p) (List.mem_range.2 (by omega))
    rw [show p + (i - p) = i by omega] at this
    exact (freeB_iff g0 h.wf h.perm (by omega)).1 this
  · intro a k hk
    have := List.mem_range.1 hk
    exact (freeB_iff g0 h.wf h.perm (by omega)).2 (a (p + k) (by omega) (by omega))

theorem takeL_pages {F G : Int} {cs cs' : List Rc} {pgs : List Pg} (g0 : 1 ≤ G) (h : Rel F G cs pgs) {C : Nat} (h1 : 1 ≤ C) {e : Value} (ht : TakeL F G pgs.length cs C e cs') : ∃ pgs', TakeLA F G pgs C e pgs' ∧ Rel F G cs' pgs' := by
  rcases ht with ⟨p, a1, a2, a3, rfl, rfl⟩ | ⟨a1, rfl, rfl⟩
  · have r := (runB_iff g0 h a1).1 a2
    exact ⟨_, Or.inl ⟨p, a1, r, fun q hq hr => absurd ((runB_iff g0 h (by omega)).2 hr) (by rw [a3 q hq]; exact Bool.false_ne_true), rfl, rfl⟩, h.large a1 h1 r⟩
  · exact ⟨pgs, Or.inr ⟨fun q hq hr => absurd ((runB_iff g0 h hq).2 hr) (by rw [a1 q hq]; exact Bool.false_ne_true), rfl, rfl⟩, h⟩

/-- A block of that size, not pending, with a cell that is not in use. -/
def Room (pgs : List Pg) (ps : List Bool) (s : Int) (p : Nat) : Prop := ∃ us, pgs[p]? = some (.blk s us) ∧ ps[p]? = some false ∧ false ∈ us

/-- Take of a cell of a size. -/
def TakeSA (F G : Int) (ps : List Bool) (pgs : List Pg) (s : Int) (e : Value) (pgs' : List Pg) : Prop :=
  (∃ (p j : Nat) (us : List Bool), pgs[p]? = some (.blk s us) ∧ ps[p]? = some false ∧ us[j]? = some false ∧ (∀ i : Nat, i < j → us[i]? ≠ some false) ∧ (∀ q : Nat, q < p → ¬ Room pgs ps s q) ∧ e = yesV (F + p * G + j * s) ∧ pgs' = pgs.set p (.blk s (us.set j true))) ∨
  ((∀ q : Nat, ¬ Room pgs ps s q) ∧
    ((∃ p : Nat, pgs[p]? = some .free ∧ (∀ q : Nat, q < p → pgs[q]? ≠ some .free) ∧ e = yesV (F + p * G) ∧ pgs' = pgs.set p (.blk s (us0 (G / s).toNat))) ∨
    ((∀ q : Nat, pgs[q]? ≠ some .free) ∧ e = noV ∧ pgs' = pgs)))

theorem TakeSA.one {F G : Int} {ps : List Bool} {pgs qs rs : List Pg} {s : Int} {d e : Value} (h : TakeSA F G ps pgs s d qs) (k : TakeSA F G ps pgs s e rs) : d = e ∧ qs = rs := by
  rcases h with ⟨p, j, us, a1, a2, a3, a4, a5, rfl, rfl⟩ | ⟨a0, a⟩ <;> rcases k with ⟨q, i, vs, b1, b2, b3, b4, b5, rfl, rfl⟩ | ⟨b0, b⟩
  · obtain rfl : p = q := by
      rcases Nat.lt_trichotomy p q with l | l | l
      · exact absurd ⟨us, a1, a2, List.mem_of_getElem? a3⟩ (b5 p l)
      · exact l
      · exact absurd ⟨vs, b1, b2, List.mem_of_getElem? b3⟩ (a5 q l)
    rw [a1] at b1
    cases b1
    obtain rfl : j = i := by
      rcases Nat.lt_trichotomy j i with l | l | l
      · exact absurd a3 (b4 j l)
      · exact l
      · exact absurd b3 (a4 i l)
    exact ⟨rfl, rfl⟩
  · exact absurd ⟨us, a1, a2, List.mem_of_getElem? a3⟩ (b0 p)
  · exact absurd ⟨vs, b1, b2, List.mem_of_getElem? b3⟩ (a0 q)
  · rcases a with ⟨p, a1, a2, rfl, rfl⟩ | ⟨a1, rfl, rfl⟩ <;> rcases b with ⟨q, b1, b2, rfl, rfl⟩ | ⟨b1, rfl, rfl⟩
    · obtain rfl : p = q := by
        rcases Nat.lt_trichotomy p q with l | l | l
        · exact absurd a1 (b2 p l)
        · exact l
        · exact absurd b1 (a2 q l)
      exact ⟨rfl, rfl⟩
    · exact absurd a1 (b1 p)
    · exact absurd b1 (a1 q)
    · exact ⟨rfl, rfl⟩

/-- Cells that may be taken are cells of blocks that have room. -/
theorem cand_blk {F G : Int} {cs : List Rc} {pgs : List Pg} (g0 : 1 ≤ G) (h : Rel F G cs pgs) {ps : List Bool} (hl : ps.length = pgs.length) {s : Int} {c : Rc} (hc : c ∈ cs) :
    candB F G ps s c = true ↔ ∃ (p j : Nat) (us : List Bool), pgs[p]? = some (.blk s us) ∧ ps[p]? = some false ∧ us[j]? = some false ∧ c = ⟨F + p * G + j * s, s, false, false⟩ := by
  constructor
  · intro hb
    simp only [candB, Bool.and_eq_true, Bool.not_eq_true', decide_eq_true_eq] at hb
    obtain ⟨⟨⟨b1, b2⟩, b3⟩, b4⟩ := hb
    obtain ⟨p, x, hx, hcx⟩ := mem_cellsP.1 (h.perm.mem_iff.1 hc)
    have hp := (List.getElem?_eq_some_iff.1 hx).1
    have e1 := (cell_pages g0 h.wf hx hcx).1
    rw [e1, Int.toNat_natCast] at b4
    cases x with
    | free => simp [Pg.cells] at hcx
    | rest => simp [Pg.cells] at hcx
    | big m => obtain rfl : c = ⟨F + p * G, m * G, true, true⟩ := by simpa [Pg.cells] using hcx
               cases b1
    | blk s' us =>
      obtain ⟨j, u, hu, rfl⟩ := mem_blk.1 hcx
      obtain rfl : s' = s := b3
      obtain rfl : u = false := b1
      have hpp : ps[p]? = some ps[p] := List.getElem?_eq_getElem (by omega)
      rw [hpp] at b4
      exact ⟨p, j, us, hx, by rw [hpp]; exact congrArg some b4, hu, rfl⟩
  · rintro ⟨p, j, us, hx, hps, hu, rfl⟩
    have e1 := (cell_pages (F := F) (c := ⟨F + p * G + j * s, s, false, false⟩) g0 h.wf hx (mem_blk.2 ⟨j, false, hu, rfl⟩)).1
    have e1 : ofI F G (F + p * G + j * s) = p := e1
    simp [candB, e1, hps]

theorem takeS_pages {F G : Int} {cs cs' : List Rc} {pgs : List Pg} (g0 : 1 ≤ G) (h : Rel F G cs pgs) {ps : List Bool} (hl : ps.length = pgs.length) {s : Int} (s0 : 4 ≤ s) (s1 : s ≤ G / 2) {e : Value} (ht : TakeS F G pgs.length ps cs s e cs') :
    ∃ pgs', TakeSA F G ps pgs s e pgs' ∧ Rel F G cs' pgs' := by
  have room : ∀ (q : Nat) (us : List Bool) (i : Nat), pgs[q]? = some (.blk s us) → ps[q]? = some false → us[i]? = some false → (⟨F + q * G + i * s, s, false, false⟩ : Rc) ∈ cs ∧ candB F G ps s ⟨F + q * G + i * s, s, false, false⟩ = true := fun q us i h1 h2 h3 => by
    have m : (⟨F + q * G + i * s, s, false, false⟩ : Rc) ∈ cs := h.perm.mem_iff.2 (mem_cellsP.2 ⟨q, _, h1, mem_blk.2 ⟨i, false, h3, rfl⟩⟩)
    exact ⟨m, (cand_blk g0 h hl m).2 ⟨q, i, us, h1, h2, h3, rfl⟩⟩
  rcases ht with ⟨b, c, a1, a2, a3, rfl, rfl⟩ | ⟨a0, a⟩
  · obtain ⟨p, j, us, hx, hps, hu, rfl⟩ := (cand_blk g0 h hl (List.mem_of_getElem? a1)).1 a2
    obtain ⟨_, _, hlen, _⟩ := h.wf.blk p s us hx
    refine ⟨_, Or.inl ⟨p, j, us, hx, hps, hu, fun i hi hui => ?_, fun q hq => ?_, rfl, rfl⟩, h.reuse hx hu a1⟩
    · obtain ⟨m, hb⟩ := room p us i hx hps hui
      have l : F + (p : Int) * G + (j : Int) * s ≤ F + (p : Int) * G + (i : Int) * s := a3 _ m hb
      have := Int.mul_lt_mul_of_pos_right (show (i : Int) < j by omega) (show 0 < s by omega)
      omega
    · rintro ⟨vs, b1, b2, b3⟩
      obtain ⟨i, hi, e⟩ := List.getElem_of_mem b3
      have hv : vs[i]? = some false := by rw [List.getElem?_eq_getElem hi, e]
      obtain ⟨m, hb⟩ := room q vs i b1 b2 hv
      have l : F + (p : Int) * G + (j : Int) * s ≤ F + (q : Int) * G + (i : Int) * s := a3 _ m hb
      obtain ⟨_, _, vlen, _⟩ := h.wf.blk q s vs b1
      obtain ⟨p0, p1⟩ := in_page s0 vlen hi
      have js : (0 : Int) ≤ (j : Int) * s := Int.mul_nonneg (by omega) (by omega)
      have h3 := Int.mul_le_mul_of_nonneg_right (show (q : Int) + 1 ≤ p by omega) (show 0 ≤ G by omega)
      rw [Int.add_mul, Int.one_mul] at h3
      omega
  · have none : ∀ q, ¬ Room pgs ps s q := fun q => by
      rintro ⟨vs, b1, b2, b3⟩
      obtain ⟨i, hi, e⟩ := List.getElem_of_mem b3
      obtain ⟨m, hb⟩ := room q vs i b1 b2 (by rw [List.getElem?_eq_getElem hi, e])
      rw [a0 _ m] at hb
      cases hb
    rcases a with ⟨p, b1, b2, b3, rfl, rfl⟩ | ⟨b1, rfl, rfl⟩
    · have hx := (freeB_iff g0 h.wf h.perm b1).1 b2
      exact ⟨_, Or.inr ⟨none, Or.inl ⟨p, hx, fun q hq hf => absurd ((freeB_iff g0 h.wf h.perm (by omega)).2 hf) (by rw [b3 q hq]; exact Bool.false_ne_true), rfl, rfl⟩⟩, h.fresh hx s0 s1⟩
    · exact ⟨pgs, Or.inr ⟨none, Or.inr ⟨fun q hf => absurd ((freeB_iff g0 h.wf h.perm (List.getElem?_eq_some_iff.1 hf).1).2 hf) (by rw [b1 q (List.getElem?_eq_some_iff.1 hf).1]; exact Bool.false_ne_true), rfl, rfl⟩⟩, h⟩
end Go.Proofs.Ytinoeofimajpdaa
