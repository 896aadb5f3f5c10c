/- For MatureSweep: the program's space, a list of places and a row of flags, apart from one another; what Take does not touch. -/
import Derived.Test.YtinoeofimajpdaaAgain5
namespace Go.Proofs.Ytinoeofimajpdaa
open Go.RowKit

section
variable {M : MatSpec} {w0 w : World} {b : Nat} {F G : Int} {ps : List Bool} {pgs : List Pg} {lv : Value} {ys : List Int}

theorem OwnI.weaken {w : World} {B B' : Nat} {v : Value} {ys : List Int} (h : OwnI w B v ys) (hB : B' ≤ B) : OwnI w B' v ys := by
  refine ⟨h.1, h.2.imp id ?_⟩
  rintro ⟨g, cap, cur, e1, e2, e3⟩
  exact ⟨g, cap, cur, e1, Nat.le_trans hB e2, e3⟩

/-- Starts tells a new list. -/
theorem sStarts (h : Sol M w0 w b F G ps pgs lv ys) (f t : Int) (f0 : -9223372036854775808 ≤ f) (f1 : f ≤ 9223372036854775807) (t0 : -9223372036854775808 ≤ t) (t1 : t ≤ 9223372036854775807) :
    Calls Try.prog 23 #[spP b, .int .i64 f, .int .i64 t] w fun e w' => ∃ u, e = .returned u ∧ Sol M w0 w' b F G ps pgs u (startsP F G pgs f t) := by
  obtain ⟨S, h1, h2, h3, h4, h5⟩ := h
  refine (M.starts f t h1 f0 f1 t0 t1).mono ?_
  rintro e w' ⟨u, he, ho, hb⟩
  refine ⟨u, he, S, M.keep h1 hb, h2, h3.trans (hb.mono h3.size), ho.weaken h3.size, fun k hk e => ?_⟩
  have := (ho.lt k e).1
  have := M.lt h1 k hk
  omega

theorem sPend (h : Sol M w0 w b F G ps pgs lv ys) : Calls Try.prog 14 #[spP b] w fun e w' => e = .returned (.tuple #[]) ∧ Sol M w0 w' b F G (pgs.map Pg.first) pgs lv ys := by
  obtain ⟨S, h1, h2, h3, h4, h5⟩ := h
  refine (M.pend h1).mono ?_
  rintro e w' ⟨S', he, k, f, s⟩
  exact ⟨he, sol_turn h2 h3 h4 h5 k f s⟩

theorem setCell_sz (w : World) (p : Addr) (u : Value) : (w.setCell p u).heap.size = w.heap.size := by simp [World.setCell]

/-- The space, a list and a row of flags. -/
def Sol2 (M : MatSpec) (w0 w : World) (b : Nat) (F G : Int) (ps : List Bool) (pgs : List Pg) (lv : Value) (ys : List Int) (hb : Nat) (hs : List Bool) : Prop :=
  ∃ S, M.Is w b S F G pgs ps ∧ (∀ k, S k → w0.heap.size ≤ k) ∧ Below w0.heap.size w0 w ∧ OwnI w w0.heap.size lv ys ∧ (∀ k, S k → lv.ownBlock ≠ some k) ∧
    Blk w hb (hs.map Value.bool).toArray 4 ∧ w0.heap.size ≤ hb ∧ ∀ k, S k → k ≠ hb

variable {hb : Nat} {hs : List Bool}

theorem Sol2.sol (h : Sol2 M w0 w b F G ps pgs lv ys hb hs) : Sol M w0 w b F G ps pgs lv ys := by
  obtain ⟨S, h1, h2, h3, h4, h5, _⟩ := h
  exact ⟨S, h1, h2, h3, h4, h5⟩

theorem Sol2.flags (h : Sol2 M w0 w b F G ps pgs lv ys hb hs) : Blk w hb (hs.map Value.bool).toArray 4 := by
  obtain ⟨S, _, _, _, _, _, h, _⟩ := h
  exact h

/-- A row of flags is made. -/
theorem Sol.flagged (h : Sol M w0 w b F G ps pgs lv ys) (hs : List Bool) (cs : Array Value) (e : cs = (hs.map Value.bool).toArray) : Sol2 M w0 (w.alloc (.cells cs 4)) b F G ps pgs lv ys w.heap.size hs := by
  obtain ⟨S, h1, h2, h3, h4, h5⟩ := h
  subst e
  have bA := (Below.refl w.heap.size w).alloc (Nat.le_refl _) (.cells (hs.map Value.bool).toArray 4)
  refine ⟨S, M.keep h1 bA, h2, h3.trans (bA.mono h3.size), h4.below bA, h5, Blk.new w _ _, h3.size, fun k hk => ?_⟩
  have := M.lt h1 k hk
  omega

theorem Sol2.keep {w' : World} (h : Sol2 M w0 w b F G ps pgs lv ys hb hs) (k : Below w.heap.size w w') : Sol2 M w0 w' b F G ps pgs lv ys hb hs := by
  obtain ⟨S, h1, h2, h3, h4, h5, h6, h7, h8⟩ := h
  exact ⟨S, M.keep h1 k, h2, h3.trans (k.mono h3.size), h4.below k, h5, h6.keep k, h7, h8⟩

/-- A flag is set. -/
theorem Sol2.setH (h : Sol2 M w0 w b F G ps pgs lv ys hb hs) (q : Nat) (x : Bool) : Sol2 M w0 (w.setCell ⟨hb, q, none⟩ (.bool x)) b F G ps pgs lv ys hb (hs.set q x) := by
  obtain ⟨S, h1, h2, h3, h4, h5, h6, h7, h8⟩ := h
  refine ⟨S, M.stay h1 (by rw [setCell_sz]; exact Nat.le_refl _) (fun k hk => Below.heap_setCell w ⟨hb, q, none⟩ _ k (h8 k hk)), h2, h3.setCell (by exact h7) _, ⟨h4.1, h4.2.imp id ?_⟩, h5, h6.setBool q x, h7, h8⟩
  rintro ⟨g, cap, cur, e1, e2, e3, e4⟩
  have hg : Blk w g cur 3 := e3
  exact ⟨g, cap, cur, e1, e2, hg.far (p := ⟨hb, q, none⟩) (Blk.ne_ hg h6 (by decide)) _, e4⟩

theorem sol2_turn {w' : World} {S S' : Nat → Prop} {pgs' : List Pg} {ps' : List Bool} (h2 : ∀ k, S k → w0.heap.size ≤ k) (h3 : Below w0.heap.size w0 w) (h4 : OwnI w w0.heap.size lv ys) (h5 : ∀ k, S k → lv.ownBlock ≠ some k)
    (h6 : Blk w hb (hs.map Value.bool).toArray 4) (h7 : w0.heap.size ≤ hb) (h8 : ∀ k, S k → k ≠ hb)
    (k1 : M.Is w' b S' F G pgs' ps') (f : Frm S w w') (s : ∀ k, S' k → S k ∨ w.heap.size ≤ k) : Sol2 M w0 w' b F G ps' pgs' lv ys hb hs := by
  obtain ⟨S2, m1, m2, m3, m4, m5⟩ := sol_turn (M := M) (pgs' := pgs') (ps' := ps') h2 h3 h4 h5 k1 f s
  have k2 := m1
  refine ⟨S', k1, fun k hk => ?_, m3, m4, fun k hk e => ?_, h6.frm f (fun e => h8 hb e rfl), h7, fun k hk => ?_⟩
  · rcases s k hk with e | e
    · exact h2 k e
    · have := h3.size; omega
  · rcases s k hk with q | q
    · exact h5 k q e
    · have := (h4.lt k e).2; omega
  · rcases s k hk with e | e
    · exact h8 k e
    · have := h6.lt; omega

theorem s2Take (h : Sol2 M w0 w b F G ps pgs lv ys hb hs) (n : Int) (n0 : -9223372036854775808 ≤ n) (n1 : n ≤ 9223372036854775807) :
    Calls Try.prog 10 #[spP b, .int .i64 n] w fun e w' => ∃ u pgs', e = .returned u ∧ TakeA F G ps pgs n u pgs' ∧ Sol2 M w0 w' b F G ps pgs' lv ys hb hs := by
  obtain ⟨S, h1, h2, h3, h4, h5, h6, h7, h8⟩ := h
  refine (M.take n h1 n0 n1).mono ?_
  rintro e w' ⟨u, pgs', S', he, t, k, f, s⟩
  exact ⟨u, pgs', he, t, sol2_turn h2 h3 h4 h5 h6 h7 h8 k f s⟩

theorem s2Done (h : Sol2 M w0 w b F G ps pgs lv ys hb hs) (n : Int) (n0 : -9223372036854775808 ≤ n) (n1 : n ≤ 9223372036854775807) :
    Calls Try.prog 16 #[spP b, .int .i64 n] w fun e w' => e = .returned (.bool (wasB ps n)) ∧ Sol2 M w0 w' b F G (doneP ps n) pgs lv ys hb hs := by
  obtain ⟨S, h1, h2, h3, h4, h5, h6, h7, h8⟩ := h
  refine (M.done n h1 n0 n1).mono ?_
  rintro e w' ⟨S', he, k, f, s⟩
  exact ⟨he, sol2_turn h2 h3 h4 h5 h6 h7 h8 k f s⟩

theorem s2Pending (h : Sol2 M w0 w b F G ps pgs lv ys hb hs) : Calls Try.prog 24 #[spP b] w fun e w' => e = .returned (pendV ps) ∧ Below w.heap.size w w' := by
  obtain ⟨S, h1, _⟩ := h
  exact M.pending h1
end

/-- A place within a cell is in a page that is not free. -/
theorem place_page {F G a : Int} {pgs : List Pg} (g0 : 1 ≤ G) (wf : WF G pgs) {c : Rc} (hc : c ∈ cellsP F G pgs) (a0 : c.pos ≤ a) (a1 : a < c.pos + c.words) : ∃ q : Nat, (a - F).tdiv G = q ∧ q < pgs.length ∧ pgs[q]? ≠ some .free := by
  obtain ⟨i, x, hx, hcx⟩ := mem_cellsP.1 hc
  obtain ⟨e1, k, k1, e2, e3⟩ := cell_pages g0 wf hx hcx
  have w1 := cells_within g0 wf hc
  have hi := (List.getElem?_eq_some_iff.1 hx).1
  unfold ofI at e1 e2
  rw [tdiv_of (by omega)] at e1 e2
  have m1 := Int.ediv_le_ediv (show 0 < G by omega) (show c.pos - F ≤ a - F by omega)
  have m2 := Int.ediv_le_ediv (show 0 < G by omega) (show a - F ≤ c.pos + c.words - 1 - F by omega)
  refine ⟨((a - F) / G).toNat, by rw [tdiv_of (by omega)]; omega, ?_, fun e => ?_⟩
  · rcases e3 with ⟨rfl, _⟩ | rfl
    · omega
    · have := (wf.big i k hx).2.1; omega
  · rcases e3 with ⟨rfl, s, us, rfl⟩ | rfl
    · have : ((a - F) / G).toNat = i := by omega
      rw [this, hx] at e
      cases e
    · by_cases ei : ((a - F) / G).toNat = i
      · rw [ei, hx] at e; cases e
      · have := (wf.big i k hx).2.2 _ (show i < ((a - F) / G).toNat by omega) (by omega)
        rw [this] at e; cases e

/-- What is held: no page of it is free, no block of it may be taken from. -/
def Held (ps : List Bool) (pgs : List Pg) (hs : List Bool) : Prop := ∀ q : Nat, hs[q]? = some true → pgs[q]? ≠ some .free ∧ ∀ s us, pgs[q]? = some (.blk s us) → ps[q]? = some true

theorem Held.take {F G n x : Int} {ps hs : List Bool} {pgs pgs' : List Pg} (g0 : 1 ≤ G) (wf : WF G pgs) (h : Held ps pgs hs) (ht : TakeA F G ps pgs n (yesV x) pgs') :
    Held ps pgs' hs ∧ ∃ q : Nat, (x - F).tdiv G = q ∧ q < pgs.length ∧ hs[q]? ≠ some true := by
  have at0 : ∀ p : Nat, (F + p * G - F).tdiv G = p := fun p => by
    have := ofI_at (F := F) g0 p 0 (by omega) (by omega)
    rwa [Int.add_zero] at this
  have one : ∀ (p : Nat) (y : Pg) (z : Pg), pgs[p]? = some y → hs[p]? ≠ some true → Held ps (pgs.set p z) hs := fun p y z hp hn q hq => by
    have : q ≠ p := fun e => hn (e ▸ hq)
    rw [List.getElem?_set_ne (by omega)]
    exact h q hq
  rcases ht with ⟨_, e, _⟩ | ⟨hn, hl, ht⟩ | ⟨hn, hl, ht⟩
  · exact absurd e.symm no_yes
  · have c1 := (pagesI_enough (p := G) (n := n) g0 (by omega)).1
    generalize hC : (pagesI G n).toNat = C at *
    rcases ht with ⟨p, hp, hr, _, e, rfl⟩ | ⟨_, e, _⟩
    · have ex : x = F + p * G := by simpa [yesV] using e
      refine ⟨fun q hq => ?_, p, by rw [ex]; exact at0 p, by omega, fun hq => (h p hq).1 (hr p (by omega) (by omega))⟩
      obtain ⟨k1, k2⟩ := h q hq
      have nr : ¬ (p ≤ q ∧ q < p + C) := fun hh => k1 (hr q hh.1 hh.2)
      by_cases ql : q < pgs.length
      · rw [bigAt_at _ _ _ _ ql, if_neg (by omega), if_neg nr]
        exact ⟨k1, k2⟩
      · rw [List.getElem?_eq_none (by rw [bigAt, List.length_set, fill_length]; omega)]
        exact ⟨by simp, fun s us e => by cases e⟩
    · exact absurd e.symm no_yes
  · rcases ht with ⟨p, j, us, hp, hps, hj, _, _, e, rfl⟩ | ⟨_, ⟨p, hp, _, e, rfl⟩ | ⟨_, e, _⟩⟩
    · have ex : x = F + p * G + j * roundI n := by simpa [yesV] using e
      have nh : hs[p]? ≠ some true := fun hq => by have := (h p hq).2 _ _ hp; rw [hps] at this; cases this
      obtain ⟨s0, s1, hlen, _⟩ := wf.blk p _ us hp
      obtain ⟨p0, p1⟩ := in_page s0 hlen (List.getElem?_eq_some_iff.1 hj).1
      refine ⟨one p _ _ hp nh, p, ?_, (List.getElem?_eq_some_iff.1 hp).1, nh⟩
      rw [ex]
      exact ofI_at g0 p _ p0 (by omega)
    · have ex : x = F + p * G := by simpa [yesV] using e
      have nh : hs[p]? ≠ some true := fun hq => (h p hq).1 hp
      exact ⟨one p _ _ hp nh, p, by rw [ex]; exact at0 p, (List.getElem?_eq_some_iff.1 hp).1, nh⟩
    · exact absurd e.symm no_yes

/-- A page that is not free is marked, of pages whose blocks are pending. -/
theorem Held.mark {pgs : List Pg} {hs : List Bool} (h : Held (pgs.map Pg.first) pgs hs) {q : Nat} (hq : pgs[q]? ≠ some .free) : Held (pgs.map Pg.first) pgs (hs.set q true) := fun k hk => by
  by_cases e : k = q
  · subst e
    exact ⟨hq, fun s us hx => by rw [List.getElem?_map, hx]; rfl⟩
  · rw [List.getElem?_set_ne (by omega)] at hk
    exact h k hk

theorem TakeA.length {F G n : Int} {ps : List Bool} {pgs pgs' : List Pg} {u : Value} (h : TakeA F G ps pgs n u pgs') : pgs'.length = pgs.length := by
  rcases h with ⟨_, _, rfl⟩ | ⟨_, _, h⟩ | ⟨_, _, h⟩
  · rfl
  · exact h.length
  · exact h.length

theorem pend_cases (ps : List Bool) : (∃ k : Nat, pendV ps = .tuple #[.int .i64 k, .bool true] ∧ ps[k]? = some true) ∨ pendV ps = .tuple #[.int .i64 0, .bool false] := by
  unfold pendV
  cases h : ps.findIdx? id with
  | none => exact Or.inr rfl
  | some i =>
    obtain ⟨hi, hp, _⟩ := List.findIdx?_eq_some_iff_getElem.1 h
    exact Or.inl ⟨i, rfl, by rw [List.getElem?_eq_getElem hi]; exact congrArg some hp⟩

theorem count_done {ps : List Bool} {k : Nat} (h : ps[k]? = some true) : wasB ps k = true ∧ doneP ps k = ps.set k false ∧ (ps.set k false).countP id + 1 = ps.countP id ∧ wasB (ps.set k false) k = false ∧ doneP (ps.set k false) k = ps.set k false := by
  have hk := (List.getElem?_eq_some_iff.1 h).1
  have w1 : wasB ps k = true := by rw [wasB, Int.toNat_natCast, h, decide_eq_true (by omega)]; rfl
  have w2 : wasB (ps.set k false) k = false := by rw [wasB, Int.toNat_natCast, List.getElem?_set_self hk]; simp
  refine ⟨w1, by rw [doneP, w1, if_pos rfl, Int.toNat_natCast], ?_, w2, by rw [doneP, w2, if_neg Bool.false_ne_true]⟩
  have e : ps = ps.take k ++ true :: ps.drop (k + 1) := by
    have := List.take_append_drop k ps
    rw [List.drop_eq_getElem_cons hk] at this
    have e2 : ps[k] = true := by rw [List.getElem?_eq_getElem hk] at h; simpa using h
    rw [e2] at this
    exact this.symm
  have l : (ps.take k).length = k := by rw [List.length_take]; omega
  have e3 : ps.set k false = ps.take k ++ false :: ps.drop (k + 1) := by
    conv => lhs; rw [e]
    rw [List.set_append_right _ _ (by omega), l, Nat.sub_self]
    rfl
  rw [e3]
  conv => rhs; rw [e]
  simp [List.countP_append]
  omega
end Go.Proofs.Ytinoeofimajpdaa
