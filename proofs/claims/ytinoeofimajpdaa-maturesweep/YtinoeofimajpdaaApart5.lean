/- The walk of MatureApart. -/
import Derived.Test.YtinoeofimajpdaaPlaysB
import Derived.Test.YtinoeofimajpdaaPgG
import Derived.Test.YtinoeofimajpdaaPlaysA
namespace Go.Proofs.Ytinoeofimajpdaa
open Go.RowKit

/-- A slice of small numbers as it came in: nil let in. -/
def RdU (w : World) (A : Option Addr) (n : Nat) : Prop :=
  ∀ i, i < n → ∃ ad x, A = some ad ∧ ad.block < w.heap.size ∧ w.cell? (ad.add i) = some (.int .u16 x) ∧ 0 ≤ x ∧ x ≤ 65535

theorem RdU.at_ {w w' : World} {A : Option Addr} {n : Nat} (h : RdU w A n) (hb : Below w.heap.size w w') {i : Nat} (hi : i < n) : ∃ ad x, A = some ad ∧ w'.cell? (ad.add i) = some (.int .u16 x) ∧ 0 ≤ x ∧ x ≤ 65535 := by
  obtain ⟨ad, x, e, hl, c, r⟩ := h i hi
  have eb : (ad.add i).block = ad.block := by unfold Addr.add; split <;> rfl
  exact ⟨ad, x, e, (hb.cell (p := ad.add i) (by rw [eb]; exact hl)).trans c, r⟩

/-- The program's space and a list of places, apart from each other and newer than w0. -/
def Sol (M : MatSpec) (w0 w : World) (b : Nat) (F G : Int) (ps : List Bool) (pgs : List Pg) (lv : Value) (ys : List Int) : Prop :=
  ∃ S, M.Is w b S F G pgs ps ∧ (∀ k, S k → w0.heap.size ≤ k) ∧ Below w0.heap.size w0 w ∧ OwnI w w0.heap.size lv ys ∧ ∀ k, S k → lv.ownBlock ≠ some k

section
variable {M : MatSpec} {w0 w : World} {b : Nat} {F G : Int} {ps : List Bool} {pgs : List Pg} {lv : Value} {ys : List Int}

theorem Sol.below (h : Sol M w0 w b F G ps pgs lv ys) : Below w0.heap.size w0 w := by obtain ⟨S, _, _, h, _⟩ := h; exact h
theorem Sol.own (h : Sol M w0 w b F G ps pgs lv ys) : OwnI w w0.heap.size lv ys := by obtain ⟨S, _, _, _, h, _⟩ := h; exact h
theorem Sol.wf (h : Sol M w0 w b F G ps pgs lv ys) : WF G pgs ∧ pgs.length = ps.length ∧ 1 ≤ G ∧ G ≤ 256 ∧ 0 ≤ F ∧ F ≤ 1048576 ∧ ps.length ≤ 64 := by obtain ⟨S, h, _⟩ := h; exact M.wf h

theorem Sol.keep {w' : World} (h : Sol M w0 w b F G ps pgs lv ys) (k : Below w.heap.size w w') : Sol M w0 w' b F G ps pgs lv ys := by
  obtain ⟨S, h1, h2, h3, h4, h5⟩ := h
  exact ⟨S, M.keep h1 k, h2, h3.trans (k.mono h3.size), h4.below k, h5⟩

theorem sol_turn {w' : World} {S S' : Nat → Prop} {pgs' : List Pg} {ps' : List Bool} (h2 : ∀ k, S k → w0.heap.size ≤ k) (h3 : Below w0.heap.size w0 w) (h4 : OwnI w w0.heap.size lv ys) (h5 : ∀ k, S k → lv.ownBlock ≠ some k)
    (k1 : M.Is w' b S' F G pgs' ps') (f : Frm S w w') (s : ∀ k, S' k → S k ∨ w.heap.size ≤ k) : Sol M w0 w' b F G ps' pgs' lv ys := by
  refine ⟨S', k1, fun k hk => ?_, h3.trans (f.below h3.size fun k hk e => by have := h2 k e; omega), ?_, fun k hk e => ?_⟩
  · rcases s k hk with e | e
    · exact h2 k e
    · have := h3.size; omega
  · refine ⟨h4.1, h4.2.imp id ?_⟩
    rintro ⟨g, cap, cur, e1, e2, e3, e4⟩
    have hg := (Array.getElem?_eq_some_iff.1 e3).1
    exact ⟨g, cap, cur, e1, e2, (f.block g hg fun hs => h5 g hs (by rw [e1]; rfl)).trans e3, e4⟩
  · rcases s k hk with q | q
    · exact h5 k q e
    · have := (h4.lt k e).2; omega

theorem sTake (h : Sol M w0 w b F G ps pgs lv ys) (n : Int) (n0 : -9223372036854775808 ≤ n) (n1 : n ≤ 9223372036854775807) :
    Calls Try.prog 10 #[spP b, .int .i64 n] w fun e w' => ∃ u pgs', e = .returned u ∧ TakeA F G ps pgs n u pgs' ∧ Sol M w0 w' b F G ps pgs' lv ys := by
  obtain ⟨S, h1, h2, h3, h4, h5⟩ := h
  refine (M.take n h1 n0 n1).mono ?_
  rintro e w' ⟨u, pgs', S', he, t, k, f, s⟩
  exact ⟨u, pgs', he, t, sol_turn h2 h3 h4 h5 k f s⟩

theorem sGive (h : Sol M w0 w b F G ps pgs lv ys) (n : Int) (n0 : -9223372036854775808 ≤ n) (n1 : n ≤ 9223372036854775807) :
    Calls Try.prog 12 #[spP b, .int .i64 n] w fun e w' => ∃ ok pgs' ps', e = .returned (.bool ok) ∧ GiveA F G ps pgs n ok pgs' ps' ∧ Sol M w0 w' b F G ps' pgs' lv ys := by
  obtain ⟨S, h1, h2, h3, h4, h5⟩ := h
  refine (M.give n h1 n0 n1).mono ?_
  rintro e w' ⟨ok, pgs', ps', S', he, t, k, f, s⟩
  exact ⟨ok, pgs', ps', he, t, sol_turn h2 h3 h4 h5 k f s⟩

theorem sSize (h : Sol M w0 w b F G ps pgs lv ys) (n : Int) (n0 : -9223372036854775808 ≤ n) (n1 : n ≤ 9223372036854775807) :
    Calls Try.prog 20 #[spP b, .int .i64 n] w fun e w' => e = .returned (sizeV (cellsP F G pgs) n) ∧ Below w.heap.size w w' := by
  obtain ⟨S, h1, _⟩ := h
  exact M.size n h1 n0 n1

/-- The list grows. -/
theorem Sol.app {w' : World} {u : Value} {x : Int} (h : Sol M w0 w b F G ps pgs lv ys) (hg : w.grownBy w' lv.ownBlock) (o : w'.ownsRow w0.heap.size 3 1 u (ys.length + 1) (ints ys ++ [.int .i64 x])) (at_ : u.ownBlock = lv.ownBlock ∨ u.ownBlock = some w.heap.size) : Sol M w0 w' b F G ps pgs u (ys ++ [x]) := by
  obtain ⟨S, h1, h2, h3, h4, h5⟩ := h
  refine ⟨S, M.stay h1 hg.size fun k hk => hg.block k (M.lt h1 k hk) fun e => h5 k hk e.symm, h2, below_grown h3 h4 hg, OwnI.snoc o, fun k hk e => ?_⟩
  rcases at_ with q | q
  · exact h5 k hk (q.symm.trans e)
  · have := M.lt h1 k hk
    rw [q] at e
    cases e
    omega
end

theorem sizeV_at {F G : Int} {pgs : List Pg} (g0 : 1 ≤ G) (wf : WF G pgs) {c : Rc} (hc : c ∈ cellsP F G pgs) (hu : c.used = true) : sizeV (cellsP F G pgs) c.pos = .tuple #[.int .i64 c.words, .bool true] := by
  have : (cellsP F G pgs).find? (hitB c.pos) = some c := by
    cases e : (cellsP F G pgs).find? (hitB c.pos) with
    | none => rw [List.find?_eq_none] at e
              exact absurd (by simp [hitB, hu]) (e c hc)
    | some d =>
      have hd := List.mem_of_find?_eq_some e
      have hh := List.find?_some e
      simp only [hitB, Bool.and_eq_true, decide_eq_true_eq] at hh
      rw [pos_unique g0 wf hd hc hh.1]
  rw [sizeV, this]

theorem usedP_mem {F G : Int} {pgs : List Pg} {y : Int} (h : y ∈ usedP F G pgs) : ∃ c ∈ cellsP F G pgs, c.pos = y ∧ c.used = true := by
  obtain ⟨c, hc, rfl⟩ := List.mem_map.1 h
  obtain ⟨hc, hu⟩ := List.mem_filter.1 hc
  exact ⟨c, hc, rfl, hu⟩

theorem usedP_nodup {F G : Int} {pgs : List Pg} (g0 : 1 ≤ G) (wf : WF G pgs) : (usedP F G pgs).Nodup := by
  have := cellsP_rise (F := F) g0 wf
  rw [List.pairwise_map] at this
  rw [usedP, List.Nodup, List.pairwise_map]
  exact (this.filter _).imp fun h e => by omega

theorem give_ok {F G : Int} {ps ps' : List Bool} {pgs pgs' : List Pg} {y : Int} {ok : Bool} (h : GiveA F G ps pgs y ok pgs' ps') (hy : y ∈ usedP F G pgs) : ok = true := by
  rcases h with ⟨h, _⟩ | ⟨_, _, _, _, _, _, _, h, _⟩ | ⟨_, _, _, _, h, _⟩
  · obtain ⟨c, hc, rfl, hu⟩ := usedP_mem hy
    rw [List.find?_eq_none] at h
    exact absurd (by simp [hitB, hu]) (h c hc)
  · exact h
  · exact h

/-- Something that is taken does not meet what was in use. -/
theorem no_meet {F G : Int} {pgs : List Pg} (g0 : 1 ≤ G) (wf : WF G pgs) {c d : Rc} (hc : c ∈ cellsP F G pgs) (hd : d ∈ cellsP F G pgs) (ne : c.pos ≠ d.pos) : ¬ (c.pos < d.pos + d.words ∧ d.pos < c.pos + c.words) := by
  rintro ⟨h1, h2⟩
  rcases Int.lt_or_lt_of_ne ne with l | l
  · have := cells_apart g0 wf hc hd l; omega
  · have := cells_apart g0 wf hd hc l; omega
end Go.Proofs.Ytinoeofimajpdaa
