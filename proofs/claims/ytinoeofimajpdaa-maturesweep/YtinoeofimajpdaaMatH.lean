/- How the program's space turns in memory when pages turn. -/
import Derived.Test.YtinoeofimajpdaaMatG
import Derived.Test.YtinoeofimajpdaaMatF
namespace Go.Proofs.Ytinoeofimajpdaa
open Go.RowKit

def setF (f : Nat → List Value) (i : Nat) (vs : List Value) (k : Nat) : List Value := if k = i then vs else f k

theorem setF_four {f : Nat → List Value} (hf : ∀ i, (f i).length = 4) (i : Nat) {vs : List Value} (hv : vs.length = 4) (k : Nat) : (setF f i vs k).length = 4 := by unfold setF; split <;> simp [hv, hf]

theorem Blk.set4 {w : World} {pb N : Nat} {f : Nat → List Value} {T : TypeId} (hf : ∀ i, (f i).length = 4) (h : Blk w pb (flat4 N f).toArray T) (i : Nat) (hi : i < N) (v0 v1 v2 v3 : Value) :
    Blk ((((w.setCell ⟨pb, i * 4, none⟩ v0).setCell ⟨pb, i * 4 + 1, none⟩ v1).setCell ⟨pb, i * 4 + 2, none⟩ v2).setCell ⟨pb, i * 4 + 3, none⟩ v3) pb (flat4 N (setF f i [v0, v1, v2, v3])).toArray T := by
  have hb := (((h.set_ (i * 4) v0).set_ (i * 4 + 1) v1).set_ (i * 4 + 2) v2).set_ (i * 4 + 3) v3
  have e : ((((flat4 N f).toArray.setIfInBounds (i * 4) v0).setIfInBounds (i * 4 + 1) v1).setIfInBounds (i * 4 + 2) v2).setIfInBounds (i * 4 + 3) v3 = (flat4 N (setF f i [v0, v1, v2, v3])).toArray := by
    apply Array.ext'
    simp only [Array.toList_setIfInBounds]
    refine flat4_ext (setF_four hf i rfl) (by simp only [List.length_set, flat4_length hf]) fun k j hk hj => ?_
    have hl := flat4_length hf N
    by_cases ek : k = i
    · subst ek
      rw [show setF f k [v0, v1, v2, v3] k = [v0, v1, v2, v3] from if_pos rfl]
      obtain rfl | rfl | rfl | rfl : j = 0 ∨ j = 1 ∨ j = 2 ∨ j = 3 := by omega
      · rw [List.getElem?_set_ne (by omega), List.getElem?_set_ne (by omega), List.getElem?_set_ne (by omega), Nat.add_zero, List.getElem?_set_self (by omega)]; rfl
      · rw [List.getElem?_set_ne (by omega), List.getElem?_set_ne (by omega), List.getElem?_set_self (by simp only [List.length_set]; omega)]; rfl
      · rw [List.getElem?_set_ne (by omega), List.getElem?_set_self (by simp only [List.length_set]; omega)]; rfl
      · rw [List.getElem?_set_self (by simp only [List.length_set]; omega)]; rfl
    · rw [List.getElem?_set_ne (by omega), List.getElem?_set_ne (by omega), List.getElem?_set_ne (by omega), List.getElem?_set_ne (by omega), flat4_at hf hk hj, show setF f i [v0, v1, v2, v3] k = f k from if_neg ek]
  rw [← e]
  exact hb

theorem flat4_congr {N : Nat} {f g : Nat → List Value} (h : ∀ i, i < N → f i = g i) : flat4 N f = flat4 N g := flatMap_ext fun i hi => h i (List.mem_range.1 hi)

def zero4 : List Value := [.int .i64 0, .int .i64 0, .slice none 0 0, .bool false]

/-- m pages from p on have no state. -/
def zeroF (f : Nat → List Value) (p m : Nat) (i : Nat) : List Value := if p ≤ i ∧ i < p + m then zero4 else f i

theorem zeroF_four {f : Nat → List Value} (hf : ∀ i, (f i).length = 4) (p m i : Nat) : (zeroF f p m i).length = 4 := by unfold zeroF; split; exact rfl; exact hf i

theorem zeroF_next (f : Nat → List Value) (p m : Nat) : setF (zeroF f p m) (p + m) zero4 = zeroF f p (m + 1) := by
  funext i
  unfold setF zeroF
  by_cases e : i = p + m
  · rw [if_pos e, if_pos ⟨by omega, by omega⟩]
  · rw [if_neg e]
    by_cases c : p ≤ i ∧ i < p + m
    · rw [if_pos c, if_pos ⟨by omega, by omega⟩]
    · rw [if_neg c, if_neg (by omega)]

theorem zeroF_none (f : Nat → List Value) (p : Nat) : zeroF f p 0 = f := by
  funext i
  unfold zeroF
  rw [if_neg (by omega)]

section
variable {w w' : World} {b pb : Nat} {ub : Nat → Nat} {F G : Int} {pgs : List Pg} {ps : List Bool}

theorem stF_at {i : Nat} {x : Pg} {q : Bool} (hx : pgs[i]? = some x) (hq : ps[i]? = some q) : stF G pgs ub ps i = stV G x (ub i) q := by
  unfold stF
  rw [List.getD_eq_getElem?_getD, hx, List.getD_eq_getElem?_getD, hq]
  rfl

/-- A page that has no cells of its own is not pending. -/
theorem IsSp.idle (h : IsSp w b pb ub F G pgs ps) {i : Nat} {x : Pg} (hx : pgs[i]? = some x) (hf : x.first = false) : ps[i]? = some false := by
  have hi := (List.getElem?_eq_some_iff.1 hx).1
  have hp : ps[i]? = some (ps[i]'(by have := h.len; omega)) := List.getElem?_eq_getElem (by have := h.len; omega)
  cases e : ps[i]'(by have := h.len; omega) with
  | false => rw [hp, e]
  | true =>
    rw [e] at hp
    obtain ⟨y, hy, hf2⟩ := h.pend i hp
    rw [hx] at hy
    cases hy
    rw [hf] at hf2
    cases hf2

/-- A flag of a block turns. -/
theorem IsSp.setFlag (h : IsSp w b pb ub F G pgs ps) {p j : Nat} {s : Int} {us : List Bool} (hx : pgs[p]? = some (.blk s us)) (v : Bool) (hw : WF G (pgs.set p (.blk s (us.set j v)))) :
    IsSp (w.setCell ⟨ub p, j, none⟩ (.bool v)) b pb ub F G (pgs.set p (.blk s (us.set j v))) ps := by
  have hp := (List.getElem?_eq_some_iff.1 hx).1
  have at_ : ∀ i : Nat, (pgs.set p (.blk s (us.set j v)))[i]? = if i = p then some (.blk s (us.set j v)) else pgs[i]? := fun i => by
    by_cases e : i = p
    · subst e; rw [List.getElem?_set_self hp, if_pos rfl]
    · rw [List.getElem?_set_ne (by omega), if_neg e]
  have old : ∀ (i : Nat) (y : Pg), (pgs.set p (.blk s (us.set j v)))[i]? = some y → y.first = true → ∃ z : Pg, pgs[i]? = some z ∧ z.first = true := fun i y hy hf => by
    rw [at_] at hy
    split at hy
    · rename_i e; subst e; exact ⟨_, hx, rfl⟩
    · exact ⟨y, hy, hf⟩
  refine { h with sp := ?_, pg := ?_, fl := fun i y hy hf => ?_, inj := fun i k y z hy hz hfy hfz => ?_, pend := fun i hi => ?_, wf := hw, len := by rw [List.length_set]; exact h.len }
  · rw [List.length_set]
    exact Blk.far h.sp (h.u_ne hx rfl) _
  · rw [List.length_set]
    have e : flat4 pgs.length (stF G (pgs.set p (.blk s (us.set j v))) ub ps) = flat4 pgs.length (stF G pgs ub ps) := flat4_congr fun i hi => by
      have hq : ps[i]? = some (ps[i]'(by have := h.len; omega)) := List.getElem?_eq_getElem (by have := h.len; omega)
      by_cases e : i = p
      · subst e
        rw [stF_at (by rw [at_, if_pos rfl]) hq, stF_at hx hq]
        simp [stV, Pg.kind, Pg.size, Pg.row, Pg.adr, Pg.first, Pg.flags]
      · rw [stF_at (x := pgs[i]) (by rw [at_, if_neg e]; exact List.getElem?_eq_getElem hi) hq, stF_at (List.getElem?_eq_getElem hi) hq]
    rw [e]
    exact h.pg.far (h.f_ne hx rfl).symm _
  · rw [at_] at hy
    split at hy
    · rename_i e
      subst e
      cases hy
      exact (h.fl i _ hx rfl).setBool j v
    · rename_i e
      exact (h.fl i y hy hf).far (fun e2 => e (h.inj i p y _ hy hx hf rfl e2)) _
  · obtain ⟨y', hy', hf'⟩ := old i y hy hfy
    obtain ⟨z', hz', hg'⟩ := old k z hz hfz
    exact h.inj i k y' z' hy' hz' hf' hg'
  · obtain ⟨y, hy, hf⟩ := h.pend i hi
    by_cases e : i = p
    · subst e; exact ⟨.blk s (us.set j v), by rw [at_, if_pos rfl], rfl⟩
    · exact ⟨y, by rw [at_, if_neg e]; exact hy, hf⟩

/-- Pages from p on are free: nothing else has turned. -/
theorem IsSp.emptied (h : IsSp w b pb ub F G pgs ps) {p c : Nat} (c1 : 1 ≤ c) (hc : p + c ≤ pgs.length) (hr : ∀ i : Nat, p < i → i < p + c → pgs[i]? = some .rest) (hw : WF G (fill pgs .free p c))
    (hs : SpB w' b F G pb pgs.length) (hg : Blk w' pb (flat4 pgs.length (zeroF (stF G pgs ub ps) p c)).toArray 62)
    (hf : ∀ (i : Nat) (x : Pg), pgs[i]? = some x → x.first = true → i ≠ p → Blk w' (ub i) (x.flags.map Value.bool).toArray 4) : IsSp w' b pb ub F G (fill pgs .free p c) (ps.set p false) := by
  have at_ := fun i hi => fill_at pgs .free p c i hi
  have hl := h.len
  have len := fill_length pgs .free p c
  have old : ∀ (i : Nat) (y : Pg), (fill pgs .free p c)[i]? = some y → y.first = true → pgs[i]? = some y ∧ i ≠ p := fun i y hy hf => by
    have hi := (List.getElem?_eq_some_iff.1 hy).1
    rw [len] at hi
    rw [at_ i hi] at hy
    split at hy
    · cases hy; cases hf
    · exact ⟨hy, by omega⟩
  refine { h with sp := by rw [len]; exact hs, pg := ?_, fl := fun i y hy hfy => ?_, inj := fun i k y z hy hz hfy hfz => ?_, pend := fun i hi => ?_, wf := hw, len := by rw [len, List.length_set]; exact h.len, p1 := by rw [List.length_set]; exact h.p1 }
  · rw [len]
    have e : flat4 pgs.length (stF G (fill pgs .free p c) ub (ps.set p false)) = flat4 pgs.length (zeroF (stF G pgs ub ps) p c) := flat4_congr fun i hi => by
      have hq : ps[i]? = some (ps[i]'(by omega)) := List.getElem?_eq_getElem (by omega)
      unfold zeroF
      by_cases e : p ≤ i ∧ i < p + c
      · rw [if_pos e]
        have hq2 : (ps.set p false)[i]? = some false := by
          by_cases e2 : i = p
          · subst e2; rw [List.getElem?_set_self (by omega)]
          · rw [List.getElem?_set_ne (by omega)]
            exact h.idle (hr i (by omega) e.2) rfl
        rw [stF_at (by rw [at_ i hi, if_pos e]) hq2]
        rfl
      · rw [if_neg e, stF_at (x := pgs[i]) (by rw [at_ i hi, if_neg e]; exact List.getElem?_eq_getElem hi) (by rw [List.getElem?_set_ne (by omega)]; exact hq), stF_at (List.getElem?_eq_getElem hi) hq]
    rw [e]
    exact hg
  · obtain ⟨k1, k2⟩ := old i y hy hfy
    exact hf i y k1 hfy k2
  · exact h.inj i k y z (old i y hy hfy).1 (old k z hz hfz).1 hfy hfz
  · have hip : i ≠ p := fun e => by subst e; rw [List.getElem?_set_self (by omega)] at hi; cases hi
    rw [List.getElem?_set_ne (by omega)] at hi
    obtain ⟨y, hy, hfy⟩ := h.pend i hi
    have hil := (List.getElem?_eq_some_iff.1 hy).1
    refine ⟨y, ?_, hfy⟩
    rw [at_ i hil, if_neg (fun e => by rw [hr i (by omega) e.2] at hy; cases hy; cases hfy)]
    exact hy
end

theorem fill_one {pgs : List Pg} {p : Nat} (y : Pg) (hp : p < pgs.length) : fill pgs y p 1 = pgs.set p y := by
  apply List.ext_getElem?
  intro i
  by_cases hi : i < pgs.length
  · rw [fill_at _ _ _ _ _ hi]
    by_cases e : i = p
    · subst e; rw [if_pos ⟨by omega, by omega⟩, List.getElem?_set_self hp]
    · rw [if_neg (by omega), List.getElem?_set_ne (by omega)]
  · rw [List.getElem?_eq_none (by rw [fill_length]; omega), List.getElem?_eq_none (by rw [List.length_set]; omega)]

theorem pages_quiet (p n : Int) (w : World) (hn : n ≤ 9223372036854775807) : Calls Try.prog 30 #[.int .i64 p, .int .i64 n] w fun e w' => e = .returned (.int .i64 (pagesI p n)) ∧ ∃ m, w' = w.drewN m :=
  (pages_any p n w hn).mono fun _ _ ⟨h1, h2⟩ => ⟨h1, 0, h2.symm⟩
end Go.Proofs.Ytinoeofimajpdaa
