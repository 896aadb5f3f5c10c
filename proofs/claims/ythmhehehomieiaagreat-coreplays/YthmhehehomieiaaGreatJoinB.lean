/- Texts of the layers below, joined: MatA MatB MatM MatG MatE MatF MatH MatK MatD MatT MatU MatS MatC MatV BufA BufB BufC MvN CardA CardB RemA RemB RemC KpQ RemD QuB GrA ClQ Lists. -/
import Derived.Test.YthmhehehomieiaaGreatJoinA
import Derived.Deep.RegionHeld3
import Derived.Deep.QuietTactic
import Derived.BigQuiet
import Derived.BigRegion
import Derived.IntWalk
import Derived.StillTailTactics
import Derived.Laws.EntriesVeiled
import Derived.Handy
import Derived.Deep.RegionWith
import Derived.Laws.CopyOwn
import Derived.ChangeSlices

/- Contracts of the program's small functions (package mature: nearest, begin, all, has, holds) and of slices.Index and slices.Contains over flags. -/
namespace Go.Proofs.YthmhehehomieiaaGreat
open Go.RowKit

set_option maxHeartbeats 1000000 in
theorem nearest_any (n l m : Int) (w : World) (hlm : l ≤ m) :
    Calls Tryz.prog 108 #[.int .i64 n, .int .i64 l, .int .i64 m] w fun e w' => e = .returned (.int .i64 (cutI n l m)) ∧ w = w' := by
  by_cases h0 : n < l
  · have E := Lib.hid (show cutI n l m = l from if_pos h0)
    go_enter Tryz.func108, Tryz.ntmps108
    go_wp2
    go_ret
    refine ⟨?_, rfl⟩
    rw [E.out]
    congr 2
    repeat' split
    all_goals omega
  · by_cases h1 : m < n
    · have E := Lib.hid (show cutI n l m = m from by rw [cutI, if_neg h0, if_pos h1])
      go_enter Tryz.func108, Tryz.ntmps108
      go_wp2
      go_ret
      refine ⟨?_, rfl⟩
      rw [E.out]
      congr 2
      repeat' split
      all_goals omega
    · have E := Lib.hid (show cutI n l m = n from by rw [cutI, if_neg h0, if_neg h1])
      go_enter Tryz.func108, Tryz.ntmps108
      go_wp2
      go_ret
      refine ⟨?_, rfl⟩
      rw [E.out]
      congr 2
      repeat' split
      all_goals omega

/-- The program's space: its block. -/
def SpB (w : World) (b : Nat) (F G : Int) (pb N : Nat) : Prop := Blk w b #[.int .i64 F, .int .i64 G, .slice (some ⟨pb, 0, none⟩) N N] 161

theorem SpB.three {w : World} {b : Nat} {F G : Int} {pb N : Nat} (h : SpB w b F G pb N) :
    w.cell? ⟨b, 0, none⟩ = some (.int .i64 F) ∧ w.cell? ⟨b, 1, none⟩ = some (.int .i64 G) ∧ w.cell? ⟨b, 2, none⟩ = some (.slice (some ⟨pb, 0, none⟩) N N) ∧ (∀ i, w.frozen? ⟨b, i, none⟩ = false) :=
  ⟨Blk.cell h 0, Blk.cell h 1, Blk.cell h 2, Blk.frozen h⟩

theorem page_in {G i : Int} (g0 : 1 ≤ G) (g1 : G ≤ 256) (i0 : 0 ≤ i) (i1 : i ≤ 64) : 0 ≤ i * G ∧ i * G ≤ 16384 := by
  have h0 : 0 ≤ i * G := Int.mul_nonneg i0 (by omega)
  have h1 := Int.mul_le_mul_of_nonneg_right i1 (show 0 ≤ G by omega)
  omega

set_option maxHeartbeats 1000000 in
theorem begin_any (b : Nat) (F G i : Int) (pb N : Nat) (w : World) (h : SpB w b F G pb N) (f0 : 0 ≤ F) (f1 : F ≤ 1048576) (g0 : 1 ≤ G) (g1 : G ≤ 256) (i0 : 0 ≤ i) (i1 : i ≤ 64) :
    Calls Tryz.prog 165 #[spP b, .int .i64 i] w fun e w' => e = .returned (.int .i64 (F + i * G)) ∧ ∃ m, w' = w.drewN m := by
  obtain ⟨c0, c1, c2, cf⟩ := h.three
  have hp := page_in g0 g1 i0 i1
  have hm : IntKind.i64.wrap (i * G) = i * G := IntWalk.i64_in _ (by omega)
  have hs : IntKind.i64.wrap (F + i * G) = F + i * G := IntWalk.i64_in _ (by omega)
  clear c2 h
  unfold spP
  go_enter Tryz.func165, Tryz.ntmps165
  go_wp2_with fail
  go_quiet (fail)
  go_wp2
  go_ret
  exact ⟨rfl, _, rfl⟩

set_option maxHeartbeats 1000000 in
theorem mAll_any (b : Nat) (F G : Int) (pb N : Nat) (w : World) (h : SpB w b F G pb N) :
    Calls Tryz.prog 112 #[spP b] w fun e w' => e = .returned (.slice (some ⟨pb, 0, none⟩) N N) ∧ w = w' := by
  obtain ⟨c0, c1, c2, cf⟩ := h.three
  clear c0 c1 h
  unfold spP
  go_enter Tryz.func112, Tryz.ntmps112
  go_wp2
  go_ret
  exact ⟨rfl, rfl⟩

def hasM (N : Nat) (n : Int) : Bool := decide (0 ≤ n) && decide (n < N)


def firstB (k : Int) : Bool := k == 1 || k == 2

set_option maxHeartbeats 1000000 in
theorem holds_any (k s : Int) (v : Value) (p : Bool) (w : World) :
    Calls Tryz.prog 164 #[.agg #[.int .i64 k, .int .i64 s, v, .bool p]] w fun e w' => e = .returned (.bool (firstB k)) ∧ Below w.heap.size w w' := by
  by_cases h1 : k = 1
  · subst h1
    go_enter Tryz.func164, Tryz.ntmps164
    go_wp2
    go_ret
    exact ⟨rfl, (Below.refl _ _).alloc (Nat.le_refl _) _⟩
  · go_enter Tryz.func164, Tryz.ntmps164
    go_wp2
    go_ret
    exact ⟨rfl, (Below.refl _ _).alloc (Nat.le_refl _) _⟩

/-- Where the first flag is that is v; below 0: nowhere. -/
def idxI (us : List Bool) (v : Bool) : Int := match us.findIdx? (fun x => v == x) with
  | some i => i
  | none => -1

set_option maxHeartbeats 1000000 in
theorem index_any (u : Nat) (us : List Bool) (v : Bool) (w : World) (h : Blk w u (us.map Value.bool).toArray 4) (few : us.length ≤ 256) :
    Calls Tryz.prog 171 #[.slice (some ⟨u, 0, none⟩) us.length us.length, .bool v] w fun e w' => e = .returned (.int .i64 (idxI us v)) ∧ w = w' := by
  have HH := Lib.hid h
  have cf := h.frozen
  clear h
  go_enter Tryz.func171, Tryz.ntmps171
  go_wp2_with fail
  go_loopw [8] (fun s wr => ∃ j : Nat, j ≤ us.length ∧ s = .int .i64 j ∧ Hid (∀ k x, k < j → us[k]? = some x → (v == x) = false) ∧ w = wr) (fun s _ => us.length - (intOf s).toNat)
  case atStart => exact ⟨0, Nat.zero_le _, rfl, Lib.hid (fun k c hk => by omega), rfl⟩
  case round =>
    obtain ⟨j, hj, rfl, HT, rfl⟩ := hrel
    by_cases hlt : j < us.length
    · obtain ⟨x, hx⟩ : ∃ x, us[j]? = some x := ⟨_, List.getElem?_eq_getElem hlt⟩
      have c0 := HH.out.bools hx
      have HX := Lib.hid hx
      clear hx
      cases e : (v == x)
      · have N1 := Lib.hid (show ∀ k y, k < j + 1 → us[k]? = some y → (v == y) = false from fun k y hk hy => by
          by_cases ek : k = j
          · subst ek
            obtain rfl : x = y := by have := HX.out.symm.trans hy; simpa using this
            exact e
          · exact HT.out k y (by omega) hy)
        have ed : decide (v = x) = false := by cases v <;> cases x <;> simp_all
        go_wp2
        go_roundw
        case rel => exact ⟨j + 1, by omega, by go_num, N1.out, by trivial⟩
        case measure => simp [intOf]; omega
      · have hit := Lib.hid (show idxI us v = j from by
          have : us.findIdx? (fun x => v == x) = some j := by
            rw [List.findIdx?_eq_some_iff_getElem]
            refine ⟨hlt, ?_, fun k hk => ?_⟩
            · have e2 : us[j] = x := by have := HX.out; rw [List.getElem?_eq_getElem hlt] at this; simpa using this
              rw [e2]; exact e
            · rw [HT.out k _ hk (List.getElem?_eq_getElem (by omega))]; exact Bool.false_ne_true
          rw [idxI, this])
        have ed : decide (v = x) = true := by cases v <;> cases x <;> simp_all
        go_wp2
        go_ret
        exact ⟨by rw [hit.out]; rfl, rfl⟩
    · obtain rfl : j = us.length := by omega
      have hit := Lib.hid (show idxI us v = -1 from by
        have : us.findIdx? (fun x => v == x) = none := by
          rw [List.findIdx?_eq_none_iff]
          intro x hx
          obtain ⟨k, hk, rfl⟩ := List.getElem_of_mem hx
          exact HT.out k _ hk (List.getElem?_eq_getElem hk)
        rw [idxI, this])
      go_wp2
      go_ret
      exact ⟨by rw [hit.out]; rfl, rfl⟩

theorem idxI_cases (us : List Bool) (v : Bool) : (∃ j : Nat, idxI us v = j ∧ us[j]? = some v ∧ ∀ i : Nat, i < j → us[i]? ≠ some v) ∨ (idxI us v = -1 ∧ v ∉ us) := by
  unfold idxI
  cases h : us.findIdx? (fun x => v == x) with
  | none =>
    rw [List.findIdx?_eq_none_iff] at h
    exact Or.inr ⟨rfl, fun hm => by have := h v hm; simp at this⟩
  | some i =>
    obtain ⟨hi, hp, hn⟩ := List.findIdx?_eq_some_iff_getElem.1 h
    refine Or.inl ⟨i, rfl, ?_, fun k hk e => ?_⟩
    · have : v = us[i] := by simpa using hp
      rw [List.getElem?_eq_getElem hi, ← this]
    · have h1 := hn k hk
      rw [List.getElem?_eq_getElem (by omega)] at e
      have : us[k] = v := by simpa using e
      rw [this] at h1
      simp at h1

def hasV (us : List Bool) (v : Bool) : Bool := decide (v ∈ us)

set_option maxHeartbeats 1000000 in
theorem contains_any (u : Nat) (us : List Bool) (v : Bool) (w : World) (h : Blk w u (us.map Value.bool).toArray 4) (few : us.length ≤ 256) :
    Calls Tryz.prog 176 #[.slice (some ⟨u, 0, none⟩) us.length us.length, .bool v] w fun e w' => e = .returned (.bool (hasV us v)) ∧ w = w' := by
  have hI := index_any u us v w h few
  rcases idxI_cases us v with ⟨j, e1, e2, _⟩ | ⟨e1, e2⟩
  · rw [e1] at hI
    have HI := Lib.hid hI
    have E := Lib.hid (show hasV us v = true from decide_eq_true (List.mem_of_getElem? e2))
    clear hI h e1 e2
    go_enter Tryz.func176, Tryz.ntmps176
    go_wp2_with fail
    refine HI.out.mono ?_
    rintro e w1 ⟨rfl, rfl⟩
    go_wp2
    go_ret
    exact ⟨by rw [E.out]; rfl, rfl⟩
  · rw [e1] at hI
    have HI := Lib.hid hI
    have E := Lib.hid (show hasV us v = false from decide_eq_false e2)
    clear hI h e1 e2
    go_enter Tryz.func176, Tryz.ntmps176
    go_wp2_with fail
    refine HI.out.mono ?_
    rintro e w1 ⟨rfl, rfl⟩
    go_wp2
    go_ret
    exact ⟨by rw [E.out]; rfl, rfl⟩
end Go.Proofs.YthmhehehomieiaaGreat

/- The program's space as it lies in memory: a block of its own, a block of its pages' states, a block of flags for each page that has cells. -/
namespace Go.Proofs.YthmhehehomieiaaGreat
open Go.RowKit

def Pg.kind : Pg → Int
  | .free => 0
  | .blk _ _ => 1
  | .big _ => 2
  | .rest => 3

def Pg.size (G : Int) : Pg → Int
  | .free => 0
  | .blk s _ => s
  | .big c => c * G
  | .rest => 0

def Pg.flags : Pg → List Bool
  | .blk _ us => us
  | .big _ => [true]
  | _ => []

def Pg.adr (u : Nat) (x : Pg) : Option Addr := if x.first then some ⟨u, 0, none⟩ else none

def Pg.row (u : Nat) (x : Pg) : Value := .slice (x.adr u) x.flags.length x.flags.length

def stV (G : Int) (x : Pg) (u : Nat) (p : Bool) : List Value := [.int .i64 x.kind, .int .i64 (x.size G), x.row u, .bool p]

def flat4 (n : Nat) (f : Nat → List Value) : List Value := (List.range n).flatMap f

theorem flat4_length {f : Nat → List Value} (hf : ∀ i, (f i).length = 4) (n : Nat) : (flat4 n f).length = n * 4 := by
  unfold flat4
  induction n with
  | zero => rfl
  | succ n ih => rw [List.range_succ, List.flatMap_append, List.length_append, ih, List.flatMap_cons, List.flatMap_nil, List.append_nil, hf]; omega

theorem flat4_at {f : Nat → List Value} (hf : ∀ i, (f i).length = 4) {n i j : Nat} (hi : i < n) (hj : j < 4) : (flat4 n f)[i * 4 + j]? = (f i)[j]? := by
  induction n with
  | zero => omega
  | succ n ih =>
    have hl := flat4_length hf n
    have e : flat4 (n + 1) f = flat4 n f ++ f n := by simp [flat4, List.range_succ]
    rw [e]
    by_cases c : i < n
    · rw [List.getElem?_append_left (by omega)]
      exact ih c
    · obtain rfl : i = n := by omega
      rw [List.getElem?_append_right (by omega)]
      congr 1
      omega

theorem flat4_ext {f : Nat → List Value} (hf : ∀ i, (f i).length = 4) {n : Nat} {L : List Value} (hl : L.length = n * 4) (h : ∀ i j, i < n → j < 4 → L[i * 4 + j]? = (f i)[j]?) : L = flat4 n f := by
  apply List.ext_getElem?
  intro k
  by_cases hk : k < n * 4
  · have e : k = (k / 4) * 4 + k % 4 := by omega
    rw [e, h _ _ (by omega) (by omega), flat4_at hf (by omega) (by omega)]
  · rw [List.getElem?_eq_none (by omega), List.getElem?_eq_none (by rw [flat4_length hf]; omega)]

def stF (G : Int) (pgs : List Pg) (ub : Nat → Nat) (ps : List Bool) (i : Nat) : List Value := stV G (pgs.getD i .free) (ub i) (ps.getD i false)

theorem stF_four (G : Int) (pgs : List Pg) (ub : Nat → Nat) (ps : List Bool) (i : Nat) : (stF G pgs ub ps i).length = 4 := rfl

/-- The program's space lies in block b, its pages' states in block pb, the flags of page i in block ub i. -/
structure IsSp (w : World) (b pb : Nat) (ub : Nat → Nat) (F G : Int) (pgs : List Pg) (ps : List Bool) : Prop where
  sp : SpB w b F G pb pgs.length
  pg : Blk w pb (flat4 pgs.length (stF G pgs ub ps)).toArray 166
  fl : ∀ (i : Nat) (x : Pg), pgs[i]? = some x → x.first = true → Blk w (ub i) (x.flags.map Value.bool).toArray 4
  inj : ∀ (i j : Nat) (x y : Pg), pgs[i]? = some x → pgs[j]? = some y → x.first = true → y.first = true → ub i = ub j → i = j
  pend : ∀ i : Nat, ps[i]? = some true → ∃ x : Pg, pgs[i]? = some x ∧ x.first = true
  wf : WF G pgs
  len : pgs.length = ps.length
  f0 : 0 ≤ F
  f1 : F ≤ 1048576
  g0 : 1 ≤ G
  g1 : G ≤ 256
  p1 : ps.length ≤ 64

/-- Its own blocks. -/
def SpS (b pb : Nat) (ub : Nat → Nat) (pgs : List Pg) (k : Nat) : Prop := k = b ∨ k = pb ∨ ∃ (i : Nat) (x : Pg), pgs[i]? = some x ∧ x.first = true ∧ k = ub i

section
variable {w w' : World} {b pb : Nat} {ub : Nat → Nat} {F G : Int} {pgs : List Pg} {ps : List Bool}

theorem IsSp.lt (h : IsSp w b pb ub F G pgs ps) (k : Nat) (hk : SpS b pb ub pgs k) : k < w.heap.size := by
  rcases hk with rfl | rfl | ⟨i, x, hx, hf, rfl⟩
  · exact Blk.lt h.sp
  · exact h.pg.lt
  · exact (h.fl i x hx hf).lt

theorem IsSp.stay (h : IsSp w b pb ub F G pgs ps) (hb : ∀ k, SpS b pb ub pgs k → w'.heap[k]? = w.heap[k]?) : IsSp w' b pb ub F G pgs ps :=
  { h with
    sp := (hb b (Or.inl rfl)).trans h.sp
    pg := (hb pb (Or.inr (Or.inl rfl))).trans h.pg
    fl := fun i x hx hf => (hb (ub i) (Or.inr (Or.inr ⟨i, x, hx, hf, rfl⟩))).trans (h.fl i x hx hf) }

theorem IsSp.keep (h : IsSp w b pb ub F G pgs ps) (k : Below w.heap.size w w') : IsSp w' b pb ub F G pgs ps := h.stay fun i hi => k.block i (h.lt i hi)

theorem IsSp.at_ (h : IsSp w b pb ub F G pgs ps) {i : Nat} {x : Pg} (hx : pgs[i]? = some x) :
    ∃ p, ps[i]? = some p ∧ w.cell? ⟨pb, i * 4, none⟩ = some (.int .i64 x.kind) ∧ w.cell? ⟨pb, i * 4 + 1, none⟩ = some (.int .i64 (x.size G)) ∧ w.cell? ⟨pb, i * 4 + 2, none⟩ = some (.slice (x.adr (ub i)) x.flags.length x.flags.length) ∧ w.cell? ⟨pb, i * 4 + 3, none⟩ = some (.bool p) ∧ (∀ k, w.frozen? ⟨pb, k, none⟩ = false) := by
  have hi := (List.getElem?_eq_some_iff.1 hx).1
  have hp : ps[i]? = some (ps[i]'(by have := h.len; omega)) := List.getElem?_eq_getElem (by have := h.len; omega)
  have hs : stF G pgs ub ps i = stV G x (ub i) (ps[i]'(by have := h.len; omega)) := by
    unfold stF
    rw [List.getD_eq_getElem?_getD, hx, List.getD_eq_getElem?_getD, hp]
    rfl
  have cell : ∀ j, j < 4 → w.cell? ⟨pb, i * 4 + j, none⟩ = (stV G x (ub i) (ps[i]'(by have := h.len; omega)))[j]? := fun j hj => by
    rw [h.pg.cell, List.getElem?_toArray, flat4_at (stF_four G pgs ub ps) hi hj, hs]
  exact ⟨_, hp, cell 0 (by omega), cell 1 (by omega), cell 2 (by omega), cell 3 (by omega), h.pg.frozen⟩

/-- A page's numbers are small. -/
theorem IsSp.small (h : IsSp w b pb ub F G pgs ps) {i : Nat} {x : Pg} (hx : pgs[i]? = some x) : 0 ≤ x.kind ∧ x.kind ≤ 3 ∧ 0 ≤ x.size G ∧ x.size G ≤ 16384 ∧ x.flags.length ≤ 64 ∧ i < 64 := by
  have hi := (List.getElem?_eq_some_iff.1 hx).1
  have hl := h.len
  have hp := h.p1
  have g0 := h.g0
  have g1 := h.g1
  cases x with
  | free => exact ⟨show (0 : Int) ≤ 0 by decide, show (0 : Int) ≤ 3 by decide, Int.le_refl _, show (0 : Int) ≤ 16384 by decide, show 0 ≤ 64 by decide, by omega⟩
  | rest => exact ⟨show (0 : Int) ≤ 3 by decide, show (3 : Int) ≤ 3 by decide, Int.le_refl _, show (0 : Int) ≤ 16384 by decide, show 0 ≤ 64 by decide, by omega⟩
  | big c =>
    obtain ⟨c1, c2, _⟩ := h.wf.big i c hx
    have := page_in (G := G) (i := c) g0 g1 (by omega) (by omega)
    exact ⟨show (0 : Int) ≤ 2 by decide, show (2 : Int) ≤ 3 by decide, this.1, this.2, show 1 ≤ 64 by decide, by omega⟩
  | blk s us =>
    obtain ⟨s0, s1, hu, _⟩ := h.wf.blk i s us hx
    have q : G / s ≤ G / 4 := by
      refine Int.le_ediv_of_mul_le (by omega) ?_
      have h1 := Int.mul_le_mul_of_nonneg_left s0 (show 0 ≤ G / s by omega)
      have h2 := Int.ediv_mul_le G (show s ≠ 0 by omega)
      omega
    refine ⟨show (0 : Int) ≤ 1 by decide, show (1 : Int) ≤ 3 by decide, ?_, ?_, ?_, by omega⟩
    · show 0 ≤ s; omega
    · show s ≤ 16384; omega
    · show us.length ≤ 64; omega
end
end Go.Proofs.YthmhehehomieiaaGreat

/- Of pages and cells, of numbers and lists alone: what the program's loops go over. -/
namespace Go.Proofs.YthmhehehomieiaaGreat

def Pg.isBig : Pg → Bool
  | .big _ => true
  | _ => false

/-- Cell j of page i. -/
def Pg.cell (F G : Int) (i : Nat) (x : Pg) (j : Nat) : Rc := ⟨F + i * G + j * x.size G, x.size G, x.flags.getD j false, x.isBig⟩

theorem Pg.cells_eq (F G : Int) (i : Nat) (x : Pg) : x.cells F G i = (List.range x.flags.length).map (x.cell F G i) := by
  cases x with
  | free => rfl
  | rest => rfl
  | big c => simp [Pg.cells, Pg.flags, Pg.cell, Pg.size, Pg.isBig, List.range_succ]
  | blk s us => rfl

theorem Pg.cells_length (F G : Int) (i : Nat) (x : Pg) : (x.cells F G i).length = x.flags.length := by rw [Pg.cells_eq]; simp

theorem Pg.cells_at (F G : Int) (i : Nat) (x : Pg) {j : Nat} (hj : j < x.flags.length) : (x.cells F G i)[j]? = some (x.cell F G i j) := by
  rw [Pg.cells_eq, List.getElem?_map, List.getElem?_range hj]; rfl

theorem Pg.mem_cells {F G : Int} {i : Nat} {x : Pg} {c : Rc} : c ∈ x.cells F G i ↔ ∃ j : Nat, j < x.flags.length ∧ c = x.cell F G i j := by
  rw [Pg.cells_eq, List.mem_map]
  constructor
  · rintro ⟨j, hj, rfl⟩; exact ⟨j, List.mem_range.1 hj, rfl⟩
  · rintro ⟨j, hj, rfl⟩; exact ⟨j, List.mem_range.2 hj, rfl⟩

theorem cellsP_take (F G : Int) {pgs : List Pg} {k : Nat} {x : Pg} (hx : pgs[k]? = some x) : cellsP F G (pgs.take (k + 1)) = cellsP F G (pgs.take k) ++ x.cells F G k := by
  have hk := (List.getElem?_eq_some_iff.1 hx).1
  unfold cellsP
  rw [List.length_take, List.length_take, Nat.min_eq_left (by omega), Nat.min_eq_left (by omega), List.range_succ, List.flatMap_append, List.flatMap_cons, List.flatMap_nil, List.append_nil]
  congr 1
  · apply flatMap_ext
    intro i hi
    have := List.mem_range.1 hi
    rw [List.getD_eq_getElem?_getD, List.getD_eq_getElem?_getD, List.getElem?_take_of_lt (by omega), List.getElem?_take_of_lt (by omega)]
  · rw [List.getD_eq_getElem?_getD, List.getElem?_take_of_lt (by omega), hx]
    rfl

theorem usedI_append (xs ys : List Rc) : usedI (xs ++ ys) = usedI xs + usedI ys := by
  induction xs with
  | nil => simp [usedI]
  | cons c xs ih => simp only [List.cons_append, usedI, ih]; omega

theorem starts_append (f t : Int) (xs ys : List Rc) : ((xs ++ ys).filter (inR f t)).map Rc.pos = (xs.filter (inR f t)).map Rc.pos ++ (ys.filter (inR f t)).map Rc.pos := by
  rw [List.filter_append, List.map_append]

theorem kind_first (x : Pg) : firstB x.kind = x.first := by cases x <;> rfl

/-- What is in use and begins at n is a cell of the page that n is in. -/
theorem hit_page {F G n : Int} {pgs : List Pg} (g0 : 1 ≤ G) (wf : WF G pgs) {c : Rc} (hc : (cellsP F G pgs).find? (hitB n) = some c) :
    ∃ (i j : Nat) (x : Pg), pgs[i]? = some x ∧ j < x.flags.length ∧ c = x.cell F G i j ∧ n = F + i * G + j * x.size G ∧ x.flags[j]? = some true ∧ ofI F G n = i := by
  have hm := List.mem_of_find?_eq_some hc
  have hh := List.find?_some hc
  simp only [hitB, Bool.and_eq_true, decide_eq_true_eq] at hh
  obtain ⟨i, x, hx, hcx⟩ := mem_cellsP.1 hm
  have hp := (cell_pages g0 wf hx hcx).1
  obtain ⟨j, hj, rfl⟩ := Pg.mem_cells.1 hcx
  refine ⟨i, j, x, hx, hj, rfl, hh.1.symm, ?_, by rw [← hh.1]; exact hp⟩
  have h2 : x.flags.getD j false = true := hh.2
  rw [List.getD_eq_getElem?_getD, List.getElem?_eq_getElem hj] at h2
  rw [List.getElem?_eq_getElem hj]
  exact congrArg some h2

theorem hit_some {F G : Int} {pgs : List Pg} (g0 : 1 ≤ G) (wf : WF G pgs) {i j : Nat} {x : Pg} (hx : pgs[i]? = some x) (hj : x.flags[j]? = some true) :
    (cellsP F G pgs).find? (hitB (F + i * G + j * x.size G)) = some (x.cell F G i j) := by
  have hjl := (List.getElem?_eq_some_iff.1 hj).1
  have hm : x.cell F G i j ∈ cellsP F G pgs := mem_cellsP.2 ⟨i, x, hx, Pg.mem_cells.2 ⟨j, hjl, rfl⟩⟩
  have hu : (x.cell F G i j).used = true := by
    show x.flags.getD j false = true
    rw [List.getD_eq_getElem?_getD, hj]; rfl
  cases e : (cellsP F G pgs).find? (hitB (F + i * G + j * x.size G)) with
  | none =>
    rw [List.find?_eq_none] at e
    exact absurd (show hitB (F + i * G + j * x.size G) (x.cell F G i j) = true from by rw [hitB, hu, Bool.and_true]; exact decide_eq_true rfl) (e _ hm)
  | some c =>
    have hcm := List.mem_of_find?_eq_some e
    have hh := List.find?_some e
    simp only [hitB, Bool.and_eq_true, decide_eq_true_eq] at hh
    rw [pos_unique g0 wf hcm hm hh.1]

/-- A cell lies within its space. -/
theorem hit_in {F G n : Int} {pgs : List Pg} (g0 : 1 ≤ G) (wf : WF G pgs) {i j : Nat} {x : Pg} (hx : pgs[i]? = some x) (hj : j < x.flags.length) (hn : n = F + i * G + j * x.size G) :
    0 ≤ (j : Int) * x.size G ∧ (j : Int) * x.size G < G ∧ F + i * G ≤ n ∧ n < F + i * G + G := by
  have key : 0 ≤ (j : Int) * x.size G ∧ (j : Int) * x.size G < G := by
    cases x with
    | free => simp [Pg.flags] at hj
    | rest => simp [Pg.flags] at hj
    | big c =>
      simp only [Pg.flags, List.length_singleton] at hj
      obtain rfl : j = 0 := by omega
      simp; omega
    | blk s us =>
      obtain ⟨s0, s1, hl, _⟩ := wf.blk i s us hx
      have := in_page s0 hl (show j < us.length from hj)
      show 0 ≤ (j : Int) * s ∧ (j : Int) * s < G
      omega
  omega
end Go.Proofs.YthmhehehomieiaaGreat

/- Contracts of the program's Done and Pend. -/
namespace Go.Proofs.YthmhehehomieiaaGreat
open Go.RowKit

section
variable {w : World} {b pb : Nat} {ub : Nat → Nat} {F G : Int} {pgs : List Pg} {ps : List Bool}

theorem IsSp.b_ne (h : IsSp w b pb ub F G pgs ps) : b ≠ pb := Blk.ne_ h.sp h.pg (by decide)
theorem IsSp.f_ne (h : IsSp w b pb ub F G pgs ps) {i : Nat} {x : Pg} (hx : pgs[i]? = some x) (hf : x.first = true) : ub i ≠ pb := Blk.ne_ (h.fl i x hx hf) h.pg (by decide)
theorem IsSp.u_ne (h : IsSp w b pb ub F G pgs ps) {i : Nat} {x : Pg} (hx : pgs[i]? = some x) (hf : x.first = true) : b ≠ ub i := Blk.ne_ h.sp (h.fl i x hx hf) (by decide)

/-- A page's pending flag is set. -/
theorem IsSp.setPend (h : IsSp w b pb ub F G pgs ps) {i : Nat} {x : Pg} (hx : pgs[i]? = some x) (q : Bool) (hq : q = true → x.first = true) :
    IsSp (w.setCell ⟨pb, i * 4 + 3, none⟩ (.bool q)) b pb ub F G pgs (ps.set i q) := by
  have hi := (List.getElem?_eq_some_iff.1 hx).1
  have hl := h.len
  refine { h with sp := Blk.far h.sp h.b_ne _, pg := ?_, fl := fun k y hk hf => (h.fl k y hk hf).far (h.f_ne hk hf) _, pend := fun k hk => ?_, len := by rw [List.length_set]; exact h.len, p1 := by rw [List.length_set]; exact h.p1 }
  · have hb := h.pg.set_ (i * 4 + 3) (.bool q)
    have e : (flat4 pgs.length (stF G pgs ub ps)).set (i * 4 + 3) (.bool q) = flat4 pgs.length (stF G pgs ub (ps.set i q)) := by
      refine flat4_ext (stF_four G pgs ub (ps.set i q)) (by rw [List.length_set, flat4_length (stF_four G pgs ub ps)]) fun k j hk hj => ?_
      by_cases e1 : k = i
      · subst e1
        by_cases e2 : j = 3
        · subst e2
          rw [List.getElem?_set_self (by rw [flat4_length (stF_four G pgs ub ps)]; omega)]
          simp [stF, stV, List.getD_eq_getElem?_getD, show k < ps.length by omega]
        · rw [List.getElem?_set_ne (by omega), flat4_at (stF_four G pgs ub ps) hk hj]
          obtain rfl | rfl | rfl : j = 0 ∨ j = 1 ∨ j = 2 := by omega
          all_goals rfl
      · rw [List.getElem?_set_ne (by omega), flat4_at (stF_four G pgs ub ps) hk hj]
        unfold stF
        rw [List.getD_eq_getElem?_getD (l := ps.set i q), List.getElem?_set_ne (by omega), ← List.getD_eq_getElem?_getD]
    rw [← e]
    have e3 : (flat4 pgs.length (stF G pgs ub ps)).toArray.setIfInBounds (i * 4 + 3) (.bool q) = ((flat4 pgs.length (stF G pgs ub ps)).set (i * 4 + 3) (.bool q)).toArray := by
      apply Array.ext'
      simp
    rw [← e3]
    exact hb
  · by_cases e : k = i
    · subst e
      rw [List.getElem?_set_self (by omega)] at hk
      exact ⟨x, hx, hq (by simpa using hk)⟩
    · rw [List.getElem?_set_ne (by omega)] at hk
      exact h.pend k hk
end


def pendN (pgs : List Pg) (ps : List Bool) (k : Nat) : List Bool := (pgs.take k).map Pg.first ++ ps.drop k

theorem pendN_next {pgs : List Pg} {ps : List Bool} (hl : pgs.length = ps.length) {k : Nat} {x : Pg} (hx : pgs[k]? = some x) : (pendN pgs ps k).set k x.first = pendN pgs ps (k + 1) := by
  have hk := (List.getElem?_eq_some_iff.1 hx).1
  unfold pendN
  rw [take_snoc hx, List.map_append, List.map_singleton, List.drop_eq_getElem_cons (show k < ps.length by omega), List.append_assoc]
  rw [List.set_append_right _ _ (by rw [List.length_map, List.length_take]; omega)]
  congr 1
  rw [List.length_map, List.length_take, Nat.min_eq_left (by omega), Nat.sub_self]
  rfl

end Go.Proofs.YthmhehehomieiaaGreat

/- Contracts of the program's find and Size. -/
namespace Go.Proofs.YthmhehehomieiaaGreat
open Go.RowKit

/-- The page and the cell of what is in use and begins there. -/
def FindA (F G : Int) (pgs : List Pg) (n : Int) (u : Value) : Prop :=
  (∃ (p j : Nat) (x : Pg), pgs[p]? = some x ∧ x.first = true ∧ x.flags[j]? = some true ∧ n = F + p * G + j * x.size G ∧ u = .tuple #[.int .i64 p, .int .i64 j, .bool true]) ∨
  ((cellsP F G pgs).find? (hitB n) = none ∧ u = .tuple #[.int .i64 0, .int .i64 0, .bool false])

def FindR (F G : Int) (pgs : List Pg) (n : Int) (w : World) (e : Ending) (w' : World) : Prop := ∃ u, e = .returned u ∧ FindA F G pgs n u ∧ Below w.heap.size w w'

theorem find_none {F G n : Int} {pgs : List Pg} (g0 : 1 ≤ G) (wf : WF G pgs) {i : Nat} {x : Pg} (hi : ofI F G n = i) (hx : pgs[i]? = some x) (hno : ∀ j : Nat, x.flags[j]? = some true → n ≠ F + i * G + j * x.size G) :
    (cellsP F G pgs).find? (hitB n) = none := by
  cases e : (cellsP F G pgs).find? (hitB n) with
  | none => rfl
  | some c =>
    obtain ⟨i', j, y, hy, hj, _, hn, hf, hi'⟩ := hit_page g0 wf e
    obtain rfl : i' = i := by omega
    rw [hx] at hy
    cases hy
    exact absurd hn (hno j hf)

theorem find_out {F G n : Int} {pgs : List Pg} (g0 : 1 ≤ G) (wf : WF G pgs) (h : n < F ∨ pgs.length * G ≤ n - F) : (cellsP F G pgs).find? (hitB n) = none := by
  cases e : (cellsP F G pgs).find? (hitB n) with
  | none => rfl
  | some c =>
    obtain ⟨i, j, x, hx, hj, _, hn, hf, _⟩ := hit_page g0 wf e
    have hi := (List.getElem?_eq_some_iff.1 hx).1
    obtain ⟨k0, k1, k2, k3⟩ := hit_in g0 wf hx hj hn
    have p0 : (0 : Int) ≤ (i : Int) * G := Int.mul_nonneg (by omega) (by omega)
    have p1 := Int.mul_le_mul_of_nonneg_right (show (i : Int) + 1 ≤ pgs.length by omega) (show 0 ≤ G by omega)
    rw [Int.add_mul, Int.one_mul] at p1
    omega

theorem first_size {G : Int} {pgs : List Pg} (g0 : 1 ≤ G) (wf : WF G pgs) {i : Nat} {x : Pg} (hx : pgs[i]? = some x) (hf : x.first = true) : 1 ≤ x.size G := by
  cases x with
  | free => cases hf
  | rest => cases hf
  | big c =>
    have := (wf.big i c hx).1
    have h := Int.mul_le_mul_of_nonneg_right (show (1 : Int) ≤ c by omega) (show 0 ≤ G by omega)
    show 1 ≤ (c : Int) * G
    omega
  | blk s us =>
    have := (wf.blk i s us hx).1
    show 1 ≤ s
    omega

theorem quot_cell {a s : Int} {j j' : Nat} (s0 : 1 ≤ s) (hj : a / s = j) (h : a = j' * s) : j = j' := by
  rw [h, Int.mul_ediv_cancel _ (by omega)] at hj
  omega

theorem first_flags {x : Pg} (h : x.first = false) : x.flags = [] := by cases x <;> simp_all [Pg.first, Pg.flags]

theorem first_adr {x : Pg} (h : x.first = true) (u : Nat) : x.adr u = some ⟨u, 0, none⟩ := by unfold Pg.adr; rw [if_pos h]

/-- What is read behind the copy of a page's state. -/
structure Copied (W : World) (c b pb : Nat) (F G : Int) (N u : Nat) (i : Nat) (k s : Int) (us : List Bool) (p : Bool) : Prop where
  copy : Blk W c #[.int .i64 k, .int .i64 s, .slice (some ⟨u, 0, none⟩) us.length us.length, .bool p] 166
  fl : Blk W u (us.map Value.bool).toArray 4
  sp : SpB W b F G pb N

theorem Copied.keep {W W' : World} {c b pb : Nat} {F G : Int} {N u i : Nat} {k s : Int} {us : List Bool} {p : Bool} (h : Copied W c b pb F G N u i k s us p) (hb : Below W.heap.size W W') : Copied W' c b pb F G N u i k s us p :=
  ⟨h.copy.keep hb, h.fl.keep hb, Blk.keep h.sp hb⟩

theorem Copied.cells {W : World} {c b pb : Nat} {F G : Int} {N u i : Nat} {k s : Int} {us : List Bool} {p : Bool} (h : Copied W c b pb F G N u i k s us p) :
    W.cell? ⟨c, 0, none⟩ = some (.int .i64 k) ∧ W.cell? ⟨c, 1, none⟩ = some (.int .i64 s) ∧ W.cell? ⟨c, 2, none⟩ = some (.slice (some ⟨u, 0, none⟩) us.length us.length) ∧ (∀ t, W.frozen? ⟨c, t, none⟩ = false) ∧ (∀ t, W.frozen? ⟨u, t, none⟩ = false) :=
  ⟨h.copy.cell 0, h.copy.cell 1, h.copy.cell 2, h.copy.frozen, h.fl.frozen⟩

theorem Copied.begins {W : World} {c b pb : Nat} {F G : Int} {N u i : Nat} {k s : Int} {us : List Bool} {p : Bool} (h : Copied W c b pb F G N u i k s us p) (f0 : 0 ≤ F) (f1 : F ≤ 1048576) (g0 : 1 ≤ G) (g1 : G ≤ 256) (i1 : i ≤ 64) (m : Nat) :
    Calls Tryz.prog 165 #[.pointer (some ⟨b, 0, none⟩), .int .i64 i] (W.drewN m) fun e w' => e = .returned (.int .i64 (F + i * G)) ∧ ∃ n, w' = (W.drewN m).drewN n :=
  begin_any b F G i pb N (W.drewN m) (h.keep (below_drewN _ m)).sp f0 f1 g0 g1 (by omega) (by omega)

set_option maxHeartbeats 8000000 in
set_option maxRecDepth 100000 in
theorem mFind_any (b pb : Nat) (ub : Nat → Nat) (F G : Int) (pgs : List Pg) (ps : List Bool) (n : Int) (w : World) (h : IsSp w b pb ub F G pgs ps) (n0 : -9223372036854775808 ≤ n) (n1 : n ≤ 9223372036854775807) :
    Calls Tryz.prog 147 #[spP b, .int .i64 n] w (FindR F G pgs n w) := by
  have few := h.p1
  rw [← h.len] at few
  have f0 := h.f0
  have f1 := h.f1
  have g0 := h.g0
  have g1 := h.g1
  have wf := Lib.hid h.wf
  obtain ⟨c0, c1, c2, cf⟩ := h.sp.three
  have HH := Lib.hid h
  obtain ⟨N, hN⟩ : ∃ N, pgs.length = N := ⟨_, rfl⟩
  rw [hN] at few c2
  have HN := Lib.hid hN
  have hNG := page_in (G := G) (i := N) g0 g1 (by omega) (by omega)
  clear h hN
  unfold spP
  by_cases lo : n < F
  · have R := Lib.hid (show FindA F G pgs n (.tuple #[.int .i64 0, .int .i64 0, .bool false]) from Or.inr ⟨find_out g0 wf.out (Or.inl lo), rfl⟩)
    have lod : decide (n < F) = true := decide_eq_true lo
    go_enter Tryz.func147, Tryz.ntmps147
    go_wp2_with fail
    go_big_quiet (fail)
    go_wp2
    go_ret3
    exact ⟨_, rfl, R.out, below_drewN _ _⟩
  · have lod : decide (n < F) = false := decide_eq_false lo
    have hw1 : IntKind.i64.wrap (n - F) = n - F := IntWalk.i64_in _ (by omega)
    have hw2 : IntKind.i64.wrap (N * G) = N * G := IntWalk.i64_in _ (by omega)
    by_cases hi : N * G ≤ n - F
    · have R := Lib.hid (show FindA F G pgs n (.tuple #[.int .i64 0, .int .i64 0, .bool false]) from Or.inr ⟨find_out g0 wf.out (Or.inr (by rw [HN.out]; exact hi)), rfl⟩)
      have hid : decide (N * G ≤ n - F) = true := decide_eq_true hi
      go_enter Tryz.func147, Tryz.ntmps147
      go_wp2_with fail
      go_big_quiet (fail)
      go_wp2
      go_ret3
      exact ⟨_, rfl, R.out, below_drewN _ _⟩
    · have hid : decide (N * G ≤ n - F) = false := decide_eq_false hi
      have q0 : 0 ≤ (n - F) / G := Int.ediv_nonneg (by omega) (by omega)
      have q1 : (n - F) / G < N := Int.ediv_lt_of_lt_mul (by omega) (by omega)
      obtain ⟨i, ei⟩ : ∃ i : Nat, (n - F) / G = i := ⟨((n - F) / G).toNat, by omega⟩
      have hq : (n - F).tdiv G = (i : Int) := by rw [tdiv_of (by omega), ei]
      have i1 : (i : Int) < N := by omega
      have hof : Hid (ofI F G n = i) := Lib.hid hq
      have rem0 := Int.mul_ediv_add_emod (n - F) G
      have rem1 := Int.emod_nonneg (n - F) (show G ≠ 0 by omega)
      have rem2 := Int.emod_lt_of_pos (n - F) (show 0 < G by omega)
      rw [ei, Int.mul_comm] at rem0
      have iG := page_in (G := G) (i := i) g0 g1 (by omega) (by omega)
      have r0 : 0 ≤ n - (F + i * G) := by omega
      have r1 : n - (F + i * G) < G := by omega
      have nb : n ≤ 2000000 := by omega
      clear rem0 rem1 rem2 q0 q1 ei
      obtain ⟨x, hx⟩ : ∃ x, pgs[i]? = some x := ⟨_, List.getElem?_eq_getElem (by have := HN.out; omega)⟩
      obtain ⟨p, hp, _⟩ := HH.out.at_ hx
      have ce := fun (W : World) (hb : Below w.heap.size w W) => (show W.cell? ⟨b, 2, none⟩ = some (.slice (some ⟨pb, 0, none⟩) N N) ∧ (∀ t, W.frozen? ⟨b, t, none⟩ = false) ∧ W.cell? ⟨pb, i * 4, none⟩ = some (.int .i64 x.kind) ∧ W.cell? ⟨pb, i * 4 + 1, none⟩ = some (.int .i64 (x.size G)) ∧ W.cell? ⟨pb, i * 4 + 2, none⟩ = some (.slice (x.adr (ub i)) x.flags.length x.flags.length) ∧ W.cell? ⟨pb, i * 4 + 3, none⟩ = some (.bool p) ∧ (∀ t, W.frozen? ⟨pb, t, none⟩ = false) from by
        have k := HH.out.keep hb
        obtain ⟨p', hp', z0, z1, z2, z3, zf⟩ := k.at_ hx
        obtain rfl : p = p' := by rw [hp] at hp'; simpa using hp'
        exact ⟨by rw [← HN.out]; exact k.sp.three.2.2.1, k.sp.three.2.2.2, z0, z1, z2, z3, zf⟩)
      have HX := Lib.hid hx
      have HO := Lib.hid (fun W => holds_any x.kind (x.size G) (.slice (x.adr (ub i)) x.flags.length x.flags.length) p W)
      rw [kind_first] at HO
      cases ff : x.first
      · rw [ff] at HO
        have R := Lib.hid (show FindA F G pgs n (.tuple #[.int .i64 0, .int .i64 0, .bool false]) from Or.inr ⟨find_none g0 wf.out hof.out hx (fun j hj => by rw [first_flags ff] at hj; simp at hj), rfl⟩)
        have CE := Lib.hid ce
        clear hx hp ff ce
        go_enter Tryz.func147, Tryz.ntmps147
        go_wp2_with fail
        go_big_quiet (fail)
        go_wp2_with fail
        go_big_quiet (fail)
        generalize hW : (w.drewN _).drewN _ = W1
        have bw : Below w.heap.size w W1 := hW ▸ below_trans (below_drewN w _) (below_drewN _ _)
        obtain ⟨z, zf, d0, d1, d2, d3, df⟩ := CE.out W1 bw
        clear hw1 hw2 hW c0 c1 c2 cf
        go_wp2_with fail
        refine (HO.out _).mono ?_
        rintro e w1 ⟨rfl, b1⟩
        go_wp2
        go_ret3
        exact ⟨_, rfl, R.out, below_trans (bw.alloc bw.size _) b1⟩
      · rw [ff] at HO
        have s0 := first_size g0 wf.out hx ff
        have s1 := (HH.out.small hx).2.2.2.1
        have fz := (HH.out.small hx).2.2.2.2.1
        have hfl := Lib.hid (HH.out.fl i x hx ff)
        have ea := first_adr ff (ub i)
        rw [ea] at HO
        simp only [ea] at ce
        have FF := Lib.hid ff
        clear ea ff hx hp
        obtain ⟨s, es⟩ : ∃ s, x.size G = s := ⟨_, rfl⟩
        obtain ⟨us, eu⟩ : ∃ us, x.flags = us := ⟨_, rfl⟩
        obtain ⟨k, ek⟩ : ∃ k, x.kind = k := ⟨_, rfl⟩
        simp only [es, eu, ek] at ce
        rw [es] at HO s0 s1
        rw [eu] at HO hfl fz
        rw [ek] at HO
        have CE := Lib.hid ce
        clear ce
        have ES := Lib.hid es
        have EU := Lib.hid eu
        clear es eu ek
        have q0 : 0 ≤ (n - (F + i * G)) / s := Int.ediv_nonneg (by omega) (by omega)
        have q1 : (n - (F + i * G)) / s ≤ n - (F + i * G) := Int.ediv_le_self s (by omega)
        obtain ⟨j, ej⟩ : ∃ j : Nat, (n - (F + i * G)) / s = j := ⟨((n - (F + i * G)) / s).toNat, by omega⟩
        have hq2 : (n - (F + i * G)).tdiv s = (j : Int) := by rw [tdiv_of (by omega), ej]
        have hw3 : IntKind.i64.wrap (n - (F + i * G)) = n - (F + i * G) := IntWalk.i64_in _ (by omega)
        have EJ := Lib.hid ej
        have j0 : (0 : Int) ≤ j := by omega
        have j1 : (j : Int) ≤ 256 := by omega
        have js0 : (0 : Int) ≤ j * s := Int.mul_nonneg j0 (by omega)
        have js1 : (j : Int) * s ≤ n - (F + i * G) := by
          have := Int.ediv_mul_le (n - (F + i * G)) (show s ≠ 0 by omega)
          rwa [ej] at this
        clear ej q0 q1
        have none_ : (∀ t : Nat, us[t]? = some true → n ≠ F + i * G + t * s) → FindA F G pgs n (.tuple #[.int .i64 0, .int .i64 0, .bool false]) := fun hno =>
          Or.inr ⟨find_none g0 wf.out hof.out HX.out (by rw [EU.out, ES.out]; exact hno), rfl⟩
        have same : ∀ t : Nat, n = F + i * G + t * s → j = t := fun t ht => quot_cell s0 EJ.out (by omega)
        have NO := Lib.hid none_
        have SM := Lib.hid same
        clear none_ same
        have hw4 : IntKind.i64.wrap (j * s) = j * s := IntWalk.i64_in _ (by omega)
        have hw5 : IntKind.i64.wrap (F + i * G + j * s) = F + i * G + j * s := IntWalk.i64_in _ (by omega)
        by_cases jl : j < us.length
        · obtain ⟨y, hy⟩ : ∃ y, us[j]? = some y := ⟨_, List.getElem?_eq_getElem jl⟩
          have HY := Lib.hid hy
          have jd1 : decide ((us.length : Int) ≤ (j : Int)) = false := decide_eq_false (by omega)
          have jd2 : decide (us.length ≤ j) = false := decide_eq_false (by omega)
          have jl2 : (j : Int) < us.length := by omega
          clear hy
          go_enter Tryz.func147, Tryz.ntmps147
          go_wp2_with fail
          go_big_quiet (fail)
          go_wp2_with fail
          go_big_quiet (fail)
          generalize hW : (w.drewN _).drewN _ = W1
          have bw : Below w.heap.size w W1 := hW ▸ below_trans (below_drewN w _) (below_drewN _ _)
          obtain ⟨z, zf, d0, d1, d2, d3, df⟩ := CE.out W1 bw
          clear hw1 hw2 hW c0 c1 c2 cf
          go_wp2_with fail
          refine (HO.out _).mono ?_
          rintro e w1 ⟨rfl, b1⟩
          have bb : Below w.heap.size w w1 := below_trans (bw.alloc bw.size _) b1
          have cp : Copied w1 W1.heap.size b pb F G pgs.length (ub i) i k s us p := ⟨(Blk.new W1 _ _).keep b1, hfl.out.keep bb, (HH.out.keep bb).sp⟩
          have CP := Lib.hid cp
          obtain ⟨e0, e1, e2, e3, e5⟩ := cp.cells
          have e4 := cp.fl.bools HY.out
          have KO := Lib.hid (cp.begins f0 f1 g0 g1 (by omega))
          have BB := Lib.hid bb
          clear b1 bb cp d0 d1 d2 d3 df z zf
          cases y
          · have R := Lib.hid (NO.out (fun t ht hn => by have := SM.out t hn; subst this; rw [HY.out] at ht; cases ht))
            go_wp2_with fail
            go_big_quiet ((go_at_call 165; refine Calls.quiet_of (KO.out _)))
            generalize hW2 : w1.drewN _ = W2
            have b2 : Below w1.heap.size w1 W2 := hW2 ▸ below_drewN w1 _
            have cp2 := CP.out.keep b2
            obtain ⟨z0, z1, z2, z3, z5⟩ := cp2.cells
            have z4 := cp2.fl.bools HY.out
            have KO2 := Lib.hid (cp2.begins f0 f1 g0 g1 (by omega))
            have BB2 := Lib.hid (below_trans BB.out b2)
            clear hW2 b2 cp2 KO e0 e1 e2 e3 e5 e4
            go_wp2_with fail
            go_big_quiet ((go_at_call 165; refine Calls.quiet_of (KO2.out _)))
            go_wp2
            go_ret3
            exact ⟨_, rfl, R.out, below_trans BB2.out (below_drewN _ _)⟩
          · by_cases en : n = F + i * G + j * s
            · have R := Lib.hid (show FindA F G pgs n (.tuple #[.int .i64 i, .int .i64 j, .bool true]) from Or.inl ⟨i, j, x, HX.out, FF.out, by rw [EU.out]; exact HY.out, by rw [ES.out]; exact en, rfl⟩)
              have ed : (n != F + i * G + j * s) = false := by simpa using en
              have ed2 : (n == F + i * G + j * s) = true := by simpa using en
              clear en
              go_wp2_with fail
              go_big_quiet ((go_at_call 165; refine Calls.quiet_of (KO.out _)))
              generalize hW2 : w1.drewN _ = W2
              have b2 : Below w1.heap.size w1 W2 := hW2 ▸ below_drewN w1 _
              have cp2 := CP.out.keep b2
              obtain ⟨z0, z1, z2, z3, z5⟩ := cp2.cells
              have z4 := cp2.fl.bools HY.out
              have KO2 := Lib.hid (cp2.begins f0 f1 g0 g1 (by omega))
              have BB2 := Lib.hid (below_trans BB.out b2)
              clear hW2 b2 cp2 KO e0 e1 e2 e3 e5 e4
              go_wp2_with fail
              go_big_quiet ((go_at_call 165; refine Calls.quiet_of (KO2.out _)))
              go_wp2
              go_ret3
              exact ⟨_, rfl, R.out, below_trans BB2.out (below_drewN _ _)⟩
            · have R := Lib.hid (NO.out (fun t ht hn => by have := SM.out t hn; subst this; exact en hn))
              have ed : (n != F + i * G + j * s) = true := by simpa using en
              have ed2 : (n == F + i * G + j * s) = false := by simpa using en
              go_wp2_with fail
              go_big_quiet ((go_at_call 165; refine Calls.quiet_of (KO.out _)))
              generalize hW2 : w1.drewN _ = W2
              have b2 : Below w1.heap.size w1 W2 := hW2 ▸ below_drewN w1 _
              have cp2 := CP.out.keep b2
              obtain ⟨z0, z1, z2, z3, z5⟩ := cp2.cells
              have z4 := cp2.fl.bools HY.out
              have KO2 := Lib.hid (cp2.begins f0 f1 g0 g1 (by omega))
              have BB2 := Lib.hid (below_trans BB.out b2)
              clear hW2 b2 cp2 KO e0 e1 e2 e3 e5 e4
              go_wp2_with fail
              go_big_quiet ((go_at_call 165; refine Calls.quiet_of (KO2.out _)))
              go_wp2
              go_ret3
              exact ⟨_, rfl, R.out, below_trans BB2.out (below_drewN _ _)⟩
        · have R := Lib.hid (NO.out (fun t ht hn => by have := SM.out t hn; subst this; rw [List.getElem?_eq_none (by omega)] at ht; cases ht))
          have jd1 : decide ((us.length : Int) ≤ (j : Int)) = true := decide_eq_true (by omega)
          have jd2 : decide (us.length ≤ j) = true := decide_eq_true (by omega)
          go_enter Tryz.func147, Tryz.ntmps147
          go_wp2_with fail
          go_big_quiet (fail)
          go_wp2_with fail
          go_big_quiet (fail)
          generalize hW : (w.drewN _).drewN _ = W1
          have bw : Below w.heap.size w W1 := hW ▸ below_trans (below_drewN w _) (below_drewN _ _)
          obtain ⟨z, zf, d0, d1, d2, d3, df⟩ := CE.out W1 bw
          clear hw1 hw2 hW c0 c1 c2 cf
          go_wp2_with fail
          refine (HO.out _).mono ?_
          rintro e w1 ⟨rfl, b1⟩
          have bb : Below w.heap.size w w1 := below_trans (bw.alloc bw.size _) b1
          have cp : Copied w1 W1.heap.size b pb F G pgs.length (ub i) i k s us p := ⟨(Blk.new W1 _ _).keep b1, hfl.out.keep bb, (HH.out.keep bb).sp⟩
          have CP := Lib.hid cp
          obtain ⟨e0, e1, e2, e3, e5⟩ := cp.cells
          have KO := Lib.hid (cp.begins f0 f1 g0 g1 (by omega))
          have BB := Lib.hid bb
          clear b1 bb cp d0 d1 d2 d3 df z zf
          go_wp2_with fail
          go_big_quiet ((go_at_call 165; refine Calls.quiet_of (KO.out _)))
          generalize hW2 : w1.drewN _ = W2
          have b2 : Below w1.heap.size w1 W2 := hW2 ▸ below_drewN w1 _
          have cp2 := CP.out.keep b2
          obtain ⟨z0, z1, z2, z3, z5⟩ := cp2.cells
          have KO2 := Lib.hid (cp2.begins f0 f1 g0 g1 (by omega))
          have BB2 := Lib.hid (below_trans BB.out b2)
          clear hW2 b2 cp2 KO e0 e1 e2 e3 e5
          go_wp2_with fail
          go_big_quiet ((go_at_call 165; refine Calls.quiet_of (KO2.out _)))
          go_wp2
          go_ret3
          exact ⟨_, rfl, R.out, below_trans BB2.out (below_drewN _ _)⟩
end Go.Proofs.YthmhehehomieiaaGreat

/- Contracts of the program's Size, Pending, Page and Used. -/
namespace Go.Proofs.YthmhehehomieiaaGreat
open Go.RowKit

set_option maxHeartbeats 4000000 in
theorem mSize_any (b pb : Nat) (ub : Nat → Nat) (F G : Int) (pgs : List Pg) (ps : List Bool) (n : Int) (w : World) (h : IsSp w b pb ub F G pgs ps) (n0 : -9223372036854775808 ≤ n) (n1 : n ≤ 9223372036854775807) :
    Calls Tryz.prog 116 #[spP b, .int .i64 n] w fun e w' => e = .returned (sizeV (cellsP F G pgs) n) ∧ Below w.heap.size w w' := by
  have HF := Lib.hid (mFind_any b pb ub F G pgs ps n w h n0 n1)
  have HH := Lib.hid h
  clear h
  unfold spP at HF ⊢
  go_enter Tryz.func116, Tryz.ntmps116
  go_wp2_with fail
  refine HF.out.mono ?_
  rintro e w1 ⟨u, rfl, hA, b1⟩
  rcases hA with ⟨p, j, x, hx, ff, hj, hn, rfl⟩ | ⟨hn, rfl⟩
  · have E := Lib.hid (show sizeV (cellsP F G pgs) n = .tuple #[.int .i64 (x.size G), .bool true] from by rw [hn, sizeV, hit_some HH.out.g0 HH.out.wf hx hj]; rfl)
    have hi := HH.out.keep b1
    obtain ⟨c0, c1, c2, cf⟩ := hi.sp.three
    obtain ⟨p', _, d0, d1, d2, d3, df⟩ := hi.at_ hx
    have lt := (List.getElem?_eq_some_iff.1 hx).1
    clear c0 c1 d0 d2 d3 hi hx hj hn ff
    go_wp2
    go_ret2
    exact ⟨by rw [E.out]; rfl, b1⟩
  · have E := Lib.hid (show sizeV (cellsP F G pgs) n = .tuple #[.int .i64 0, .bool false] from by rw [sizeV, hn])
    clear hn
    go_wp2
    go_ret2
    exact ⟨by rw [E.out]; rfl, b1⟩



/-- A flag of a page, as the loop reads it. -/
theorem IsSp.flag {w : World} {b pb : Nat} {ub : Nat → Nat} {F G : Int} {pgs : List Pg} {ps : List Bool} (h : IsSp w b pb ub F G pgs ps) {i j : Nat} {x : Pg} (hx : pgs[i]? = some x) (hj : j < x.flags.length) :
    ∃ y, x.flags[j]? = some y ∧ x.adr (ub i) = some ⟨ub i, 0, none⟩ ∧ w.cell? ⟨ub i, j, none⟩ = some (.bool y) ∧ (∀ k, w.frozen? ⟨ub i, k, none⟩ = false) := by
  have ff : x.first = true := by
    cases e : x.first with
    | true => rfl
    | false => rw [first_flags e] at hj; simp at hj
  have hb := h.fl i x hx ff
  exact ⟨x.flags[j], List.getElem?_eq_getElem hj, first_adr ff _, hb.bools (List.getElem?_eq_getElem hj), hb.frozen⟩

set_option maxHeartbeats 4000000 in
theorem mUsed_any (b pb : Nat) (ub : Nat → Nat) (F G : Int) (pgs : List Pg) (ps : List Bool) (w : World) (h : IsSp w b pb ub F G pgs ps) :
    Calls Tryz.prog 69 #[spP b] w fun e w' => e = .returned (.int .i64 (usedI (cellsP F G pgs))) ∧ Below w.heap.size w w' := by
  have few := h.p1
  rw [← h.len] at few
  have HH := Lib.hid h
  have HA := Lib.hid (mAll_any b F G pb pgs.length w h.sp)
  obtain ⟨N, hN⟩ : ∃ N, pgs.length = N := ⟨_, rfl⟩
  rw [hN] at HA few
  have HN := Lib.hid hN
  clear h hN
  unfold spP at HA ⊢
  go_enter Tryz.func69, Tryz.ntmps69
  go_wp2_with fail
  refine HA.out.mono ?_
  rintro e w1 ⟨rfl, rfl⟩
  go_wp2_with fail
  go_loopw [3, 11] (fun s s11 wr => ∃ (k : Nat) (q : Int), k ≤ N ∧ s11 = .int .i64 k ∧ s = .int .i64 q ∧ Hid (q = usedI (cellsP F G (pgs.take k))) ∧ 0 ≤ q ∧ q ≤ 1048576 * k ∧ Below w.heap.size w wr) (fun _ s11 _ => N - (intOf s11).toNat)
  case atStart => exact ⟨0, 0, Nat.zero_le _, rfl, rfl, Lib.hid (by rw [List.take_zero]; rfl), by omega, by omega, Below.refl _ _⟩
  case round =>
    obtain ⟨k, q, hk, rfl, rfl, HQ, q0, q1, bb⟩ := hrel
    by_cases hlt : k < N
    · obtain ⟨x, hx⟩ : ∃ x, pgs[k]? = some x := ⟨_, List.getElem?_eq_getElem (by have := HN.out; omega)⟩
      have hi := HH.out.keep bb
      obtain ⟨p, hp, d0, d1, d2, d3, df⟩ := hi.at_ hx
      obtain ⟨_, _, z0, z1, z2, _⟩ := hi.small hx
      have HX := Lib.hid hx
      clear hx hp
      have KI := Lib.hid (hi.keep ((Below.refl _ wr).alloc (Nat.le_refl _) (.cells #[.int .i64 x.kind, .int .i64 (x.size G), .slice (x.adr (ub k)) x.flags.length x.flags.length, .bool p] 166)))
      have BN := Lib.hid (bb.alloc bb.size (.cells #[.int .i64 x.kind, .int .i64 (x.size G), .slice (x.adr (ub k)) x.flags.length x.flags.length, .bool p] 166))
      clear hi
      go_wp2_with fail
      go_loopw [3, 18] (fun s s18 wr' => ∃ (j : Nat) (u : Int), j ≤ x.flags.length ∧ s18 = .int .i64 j ∧ s = .int .i64 (q + u) ∧ Hid (u = usedI ((x.cells F G k).take j)) ∧ 0 ≤ u ∧ u ≤ 16384 * j ∧ wr.alloc (.cells #[.int .i64 x.kind, .int .i64 (x.size G), .slice (x.adr (ub k)) x.flags.length x.flags.length, .bool p] 166) = wr') (fun _ s18 _ => x.flags.length - (intOf s18).toNat)
      case atStart => exact ⟨0, 0, Nat.zero_le _, rfl, by simp, Lib.hid (by rw [List.take_zero]; rfl), by omega, by omega, rfl⟩
      case round =>
        obtain ⟨j, u, hj, rfl, rfl, HU, u0, u1, rfl⟩ := hrel
        by_cases jlt : j < x.flags.length
        · obtain ⟨y, hy, ea, g0, gf⟩ := KI.out.flag HX.out jlt
          have HS := Lib.hid (show usedI ((x.cells F G k).take (j + 1)) = usedI ((x.cells F G k).take j) + (if y then x.size G else 0) from by
            rw [take_snoc (Pg.cells_at F G k x jlt), usedI_snoc]
            congr 1
            show (if x.flags.getD j false = true then x.size G else 0) = _
            rw [List.getD_eq_getElem?_getD, hy]
            rfl)
          clear hy
          rw [ea]
          rw [ea] at g0 gf
          clear ea
          cases y
          · go_wp2
            go_roundw
            case rel => exact ⟨j + 1, u, by omega, by go_num, rfl, Lib.hid (by rw [HS.out, HU.out]; simp), by omega, by omega, by trivial⟩
            case measure => simp [intOf]; omega
          · go_wp2
            go_roundw
            case rel => exact ⟨j + 1, u + x.size G, by omega, by go_num, by go_num, Lib.hid (by rw [HS.out, HU.out]; simp), by omega, by omega, by trivial⟩
            case measure => simp [intOf]; omega
        · obtain rfl : j = x.flags.length := by omega
          have HS := Lib.hid (show q + u = usedI (cellsP F G (pgs.take (k + 1))) from by
            rw [cellsP_take F G HX.out, usedI_append, HQ.out, HU.out, ← Pg.cells_length F G k x, List.take_length])
          go_wp2
          go_roundw
          case rel => exact ⟨k + 1, q + u, by omega, by go_num, rfl, HS, by omega, by omega, BN.out⟩
          case measure => simp [intOf]; omega
    · obtain rfl : k = N := by omega
      have E := Lib.hid (show usedI (cellsP F G pgs) = q from by rw [HQ.out, ← HN.out, List.take_length])
      go_wp2
      go_ret
      exact ⟨by rw [E.out]; rfl, bb⟩
end Go.Proofs.YthmhehehomieiaaGreat

/- How the program's space turns in memory when pages turn. -/
namespace Go.Proofs.YthmhehehomieiaaGreat
open Go.RowKit

def setF (f : Nat → List Value) (i : Nat) (vs : List Value) (k : Nat) : List Value := if k = i then vs else f k

theorem setF_four {f : Nat → List Value} (hf : ∀ i, (f i).length = 4) (i : Nat) {vs : List Value} (hv : vs.length = 4) (k : Nat) : (setF f i vs k).length = 4 := by unfold setF; split <;> simp [hv, hf]

theorem Blk.set4 {w : World} {pb N : Nat} {f : Nat → List Value} {T : TypeId} (hf : ∀ i, (f i).length = 4) (h : Blk w pb (flat4 N f).toArray T) (i : Nat) (hi : i < N) (v0 v1 v2 v3 : Value) :
    Blk ((((w.setCell ⟨pb, i * 4, none⟩ v0).setCell ⟨pb, i * 4 + 1, none⟩ v1).setCell ⟨pb, i * 4 + 2, none⟩ v2).setCell ⟨pb, i * 4 + 3, none⟩ v3) pb (flat4 N (setF f i [v0, v1, v2, v3])).toArray T := by
  have hb := (((h.set_ (i * 4) v0).set_ (i * 4 + 1) v1).set_ (i * 4 + 2) v2).set_ (i * 4 + 3) v3
  have e : ((((flat4 N f).toArray.setIfInBounds (i * 4) v0).setIfInBounds (i * 4 + 1) v1).setIfInBounds (i * 4 + 2) v2).setIfInBounds (i * 4 + 3) v3 = (flat4 N (setF f i [v0, v1, v2, v3])).toArray := by
    apply Array.ext'
    simp only [Array.toList_setIfInBounds]
    refine flat4_ext (setF_four hf i rfl) (by simp only [List.length_set, flat4_length hf]) fun k j hk hj => ?_
    have hl := flat4_length hf N
    by_cases ek : k = i
    · subst ek
      rw [show setF f k [v0, v1, v2, v3] k = [v0, v1, v2, v3] from if_pos rfl]
      obtain rfl | rfl | rfl | rfl : j = 0 ∨ j = 1 ∨ j = 2 ∨ j = 3 := by omega
      · rw [List.getElem?_set_ne (by omega), List.getElem?_set_ne (by omega), List.getElem?_set_ne (by omega), Nat.add_zero, List.getElem?_set_self (by omega)]; rfl
      · rw [List.getElem?_set_ne (by omega), List.getElem?_set_ne (by omega), List.getElem?_set_self (by simp only [List.length_set]; omega)]; rfl
      · rw [List.getElem?_set_ne (by omega), List.getElem?_set_self (by simp only [List.length_set]; omega)]; rfl
      · rw [List.getElem?_set_self (by simp only [List.length_set]; omega)]; rfl
    · rw [List.getElem?_set_ne (by omega), List.getElem?_set_ne (by omega), List.getElem?_set_ne (by omega), List.getElem?_set_ne (by omega), flat4_at hf hk hj, show setF f i [v0, v1, v2, v3] k = f k from if_neg ek]
  rw [← e]
  exact hb

theorem flat4_congr {N : Nat} {f g : Nat → List Value} (h : ∀ i, i < N → f i = g i) : flat4 N f = flat4 N g := flatMap_ext fun i hi => h i (List.mem_range.1 hi)

def zero4 : List Value := [.int .i64 0, .int .i64 0, .slice none 0 0, .bool false]

/-- m pages from p on have no state. -/
def zeroF (f : Nat → List Value) (p m : Nat) (i : Nat) : List Value := if p ≤ i ∧ i < p + m then zero4 else f i

theorem zeroF_four {f : Nat → List Value} (hf : ∀ i, (f i).length = 4) (p m i : Nat) : (zeroF f p m i).length = 4 := by unfold zeroF; split; exact rfl; exact hf i

theorem zeroF_next (f : Nat → List Value) (p m : Nat) : setF (zeroF f p m) (p + m) zero4 = zeroF f p (m + 1) := by
  funext i
  unfold setF zeroF
  by_cases e : i = p + m
  · rw [if_pos e, if_pos ⟨by omega, by omega⟩]
  · rw [if_neg e]
    by_cases c : p ≤ i ∧ i < p + m
    · rw [if_pos c, if_pos ⟨by omega, by omega⟩]
    · rw [if_neg c, if_neg (by omega)]

theorem zeroF_none (f : Nat → List Value) (p : Nat) : zeroF f p 0 = f := by
  funext i
  unfold zeroF
  rw [if_neg (by omega)]

section
variable {w w' : World} {b pb : Nat} {ub : Nat → Nat} {F G : Int} {pgs : List Pg} {ps : List Bool}

theorem stF_at {i : Nat} {x : Pg} {q : Bool} (hx : pgs[i]? = some x) (hq : ps[i]? = some q) : stF G pgs ub ps i = stV G x (ub i) q := by
  unfold stF
  rw [List.getD_eq_getElem?_getD, hx, List.getD_eq_getElem?_getD, hq]
  rfl

/-- A page that has no cells of its own is not pending. -/
theorem IsSp.idle (h : IsSp w b pb ub F G pgs ps) {i : Nat} {x : Pg} (hx : pgs[i]? = some x) (hf : x.first = false) : ps[i]? = some false := by
  have hi := (List.getElem?_eq_some_iff.1 hx).1
  have hp : ps[i]? = some (ps[i]'(by have := h.len; omega)) := List.getElem?_eq_getElem (by have := h.len; omega)
  cases e : ps[i]'(by have := h.len; omega) with
  | false => rw [hp, e]
  | true =>
    rw [e] at hp
    obtain ⟨y, hy, hf2⟩ := h.pend i hp
    rw [hx] at hy
    cases hy
    rw [hf] at hf2
    cases hf2

/-- A flag of a block turns. -/
theorem IsSp.setFlag (h : IsSp w b pb ub F G pgs ps) {p j : Nat} {s : Int} {us : List Bool} (hx : pgs[p]? = some (.blk s us)) (v : Bool) (hw : WF G (pgs.set p (.blk s (us.set j v)))) :
    IsSp (w.setCell ⟨ub p, j, none⟩ (.bool v)) b pb ub F G (pgs.set p (.blk s (us.set j v))) ps := by
  have hp := (List.getElem?_eq_some_iff.1 hx).1
  have at_ : ∀ i : Nat, (pgs.set p (.blk s (us.set j v)))[i]? = if i = p then some (.blk s (us.set j v)) else pgs[i]? := fun i => by
    by_cases e : i = p
    · subst e; rw [List.getElem?_set_self hp, if_pos rfl]
    · rw [List.getElem?_set_ne (by omega), if_neg e]
  have old : ∀ (i : Nat) (y : Pg), (pgs.set p (.blk s (us.set j v)))[i]? = some y → y.first = true → ∃ z : Pg, pgs[i]? = some z ∧ z.first = true := fun i y hy hf => by
    rw [at_] at hy
    split at hy
    · rename_i e; subst e; exact ⟨_, hx, rfl⟩
    · exact ⟨y, hy, hf⟩
  refine { h with sp := ?_, pg := ?_, fl := fun i y hy hf => ?_, inj := fun i k y z hy hz hfy hfz => ?_, pend := fun i hi => ?_, wf := hw, len := by rw [List.length_set]; exact h.len }
  · rw [List.length_set]
    exact Blk.far h.sp (h.u_ne hx rfl) _
  · rw [List.length_set]
    have e : flat4 pgs.length (stF G (pgs.set p (.blk s (us.set j v))) ub ps) = flat4 pgs.length (stF G pgs ub ps) := flat4_congr fun i hi => by
      have hq : ps[i]? = some (ps[i]'(by have := h.len; omega)) := List.getElem?_eq_getElem (by have := h.len; omega)
      by_cases e : i = p
      · subst e
        rw [stF_at (by rw [at_, if_pos rfl]) hq, stF_at hx hq]
        simp [stV, Pg.kind, Pg.size, Pg.row, Pg.adr, Pg.first, Pg.flags]
      · rw [stF_at (x := pgs[i]) (by rw [at_, if_neg e]; exact List.getElem?_eq_getElem hi) hq, stF_at (List.getElem?_eq_getElem hi) hq]
    rw [e]
    exact h.pg.far (h.f_ne hx rfl).symm _
  · rw [at_] at hy
    split at hy
    · rename_i e
      subst e
      cases hy
      exact (h.fl i _ hx rfl).setBool j v
    · rename_i e
      exact (h.fl i y hy hf).far (fun e2 => e (h.inj i p y _ hy hx hf rfl e2)) _
  · obtain ⟨y', hy', hf'⟩ := old i y hy hfy
    obtain ⟨z', hz', hg'⟩ := old k z hz hfz
    exact h.inj i k y' z' hy' hz' hf' hg'
  · obtain ⟨y, hy, hf⟩ := h.pend i hi
    by_cases e : i = p
    · subst e; exact ⟨.blk s (us.set j v), by rw [at_, if_pos rfl], rfl⟩
    · exact ⟨y, by rw [at_, if_neg e]; exact hy, hf⟩

/-- Pages from p on are free: nothing else has turned. -/
theorem IsSp.emptied (h : IsSp w b pb ub F G pgs ps) {p c : Nat} (c1 : 1 ≤ c) (hc : p + c ≤ pgs.length) (hr : ∀ i : Nat, p < i → i < p + c → pgs[i]? = some .rest) (hw : WF G (fill pgs .free p c))
    (hs : SpB w' b F G pb pgs.length) (hg : Blk w' pb (flat4 pgs.length (zeroF (stF G pgs ub ps) p c)).toArray 166)
    (hf : ∀ (i : Nat) (x : Pg), pgs[i]? = some x → x.first = true → i ≠ p → Blk w' (ub i) (x.flags.map Value.bool).toArray 4) : IsSp w' b pb ub F G (fill pgs .free p c) (ps.set p false) := by
  have at_ := fun i hi => fill_at pgs .free p c i hi
  have hl := h.len
  have len := fill_length pgs .free p c
  have old : ∀ (i : Nat) (y : Pg), (fill pgs .free p c)[i]? = some y → y.first = true → pgs[i]? = some y ∧ i ≠ p := fun i y hy hf => by
    have hi := (List.getElem?_eq_some_iff.1 hy).1
    rw [len] at hi
    rw [at_ i hi] at hy
    split at hy
    · cases hy; cases hf
    · exact ⟨hy, by omega⟩
  refine { h with sp := by rw [len]; exact hs, pg := ?_, fl := fun i y hy hfy => ?_, inj := fun i k y z hy hz hfy hfz => ?_, pend := fun i hi => ?_, wf := hw, len := by rw [len, List.length_set]; exact h.len, p1 := by rw [List.length_set]; exact h.p1 }
  · rw [len]
    have e : flat4 pgs.length (stF G (fill pgs .free p c) ub (ps.set p false)) = flat4 pgs.length (zeroF (stF G pgs ub ps) p c) := flat4_congr fun i hi => by
      have hq : ps[i]? = some (ps[i]'(by omega)) := List.getElem?_eq_getElem (by omega)
      unfold zeroF
      by_cases e : p ≤ i ∧ i < p + c
      · rw [if_pos e]
        have hq2 : (ps.set p false)[i]? = some false := by
          by_cases e2 : i = p
          · subst e2; rw [List.getElem?_set_self (by omega)]
          · rw [List.getElem?_set_ne (by omega)]
            exact h.idle (hr i (by omega) e.2) rfl
        rw [stF_at (by rw [at_ i hi, if_pos e]) hq2]
        rfl
      · rw [if_neg e, stF_at (x := pgs[i]) (by rw [at_ i hi, if_neg e]; exact List.getElem?_eq_getElem hi) (by rw [List.getElem?_set_ne (by omega)]; exact hq), stF_at (List.getElem?_eq_getElem hi) hq]
    rw [e]
    exact hg
  · obtain ⟨k1, k2⟩ := old i y hy hfy
    exact hf i y k1 hfy k2
  · exact h.inj i k y z (old i y hy hfy).1 (old k z hz hfz).1 hfy hfz
  · have hip : i ≠ p := fun e => by subst e; rw [List.getElem?_set_self (by omega)] at hi; cases hi
    rw [List.getElem?_set_ne (by omega)] at hi
    obtain ⟨y, hy, hfy⟩ := h.pend i hi
    have hil := (List.getElem?_eq_some_iff.1 hy).1
    refine ⟨y, ?_, hfy⟩
    rw [at_ i hil, if_neg (fun e => by rw [hr i (by omega) e.2] at hy; cases hy; cases hfy)]
    exact hy
end

theorem fill_one {pgs : List Pg} {p : Nat} (y : Pg) (hp : p < pgs.length) : fill pgs y p 1 = pgs.set p y := by
  apply List.ext_getElem?
  intro i
  by_cases hi : i < pgs.length
  · rw [fill_at _ _ _ _ _ hi]
    by_cases e : i = p
    · subst e; rw [if_pos ⟨by omega, by omega⟩, List.getElem?_set_self hp]
    · rw [if_neg (by omega), List.getElem?_set_ne (by omega)]
  · rw [List.getElem?_eq_none (by rw [fill_length]; omega), List.getElem?_eq_none (by rw [List.length_set]; omega)]

theorem pages_quiet (p n : Int) (w : World) (hn : n ≤ 9223372036854775807) : Calls Tryz.prog 152 #[.int .i64 p, .int .i64 n] w fun e w' => e = .returned (.int .i64 (pagesI p n)) ∧ ∃ m, w' = w.drewN m :=
  (pages_any p n w hn).mono fun _ _ ⟨h1, h2⟩ => ⟨h1, 0, h2.symm⟩
end Go.Proofs.YthmhehehomieiaaGreat

/- Contract of the program's Give. -/
namespace Go.Proofs.YthmhehehomieiaaGreat
open Go.RowKit

/-- How Give ends. -/
def GaveM (b pb : Nat) (ub : Nat → Nat) (F G : Int) (pgs : List Pg) (ps : List Bool) (n : Int) (w : World) (e : Ending) (w' : World) : Prop :=
  ∃ ok pgs' ps', e = .returned (.bool ok) ∧ GiveA F G ps pgs n ok pgs' ps' ∧ IsSp w' b pb ub F G pgs' ps' ∧ Frm (SpS b pb ub pgs) w w'

theorem give_some {F G n : Int} {pgs : List Pg} {ps : List Bool} {p j : Nat} {x : Pg} (hx : pgs[p]? = some x) (hj : x.flags[j]? = some true) (hn : n = F + p * G + j * x.size G) (ht : hasV (x.flags.set j false) true = true) :
    ∃ s us, x = .blk s us ∧ true ∈ us.set j false ∧ GiveA F G ps pgs n true (pgs.set p (.blk s (us.set j false))) ps := by
  have hm : true ∈ x.flags.set j false := of_decide_eq_true ht
  cases x with
  | free => simp [Pg.flags] at hj
  | rest => simp [Pg.flags] at hj
  | big c =>
    obtain rfl : j = 0 := by have := (List.getElem?_eq_some_iff.1 hj).1; simp only [Pg.flags, List.length_singleton] at this; omega
    simp [Pg.flags] at hm
  | blk s us => exact ⟨s, us, rfl, hm, Or.inr (Or.inl ⟨p, j, s, us, hx, hj, hn, rfl, Or.inl ⟨hm, rfl, rfl⟩⟩)⟩

/-- How many pages something takes. -/
def Pg.count : Pg → Nat
  | .big c => c
  | _ => 1

theorem give_none {F G n : Int} {pgs : List Pg} {ps : List Bool} (g0 : 1 ≤ G) (wf : WF G pgs) {p j : Nat} {x : Pg} (hx : pgs[p]? = some x) (hj : x.flags[j]? = some true) (hn : n = F + p * G + j * x.size G) (ht : hasV (x.flags.set j false) true = false) :
    pagesI G (x.size G) = x.count ∧ 1 ≤ x.count ∧ p + x.count ≤ pgs.length ∧ (∀ i : Nat, p < i → i < p + x.count → pgs[i]? = some .rest) ∧ WF G (fill pgs .free p x.count) ∧ GiveA F G ps pgs n true (fill pgs .free p x.count) (ps.set p false) := by
  have hp := (List.getElem?_eq_some_iff.1 hx).1
  have hm : true ∉ x.flags.set j false := of_decide_eq_false ht
  cases x with
  | free => simp [Pg.flags] at hj
  | rest => simp [Pg.flags] at hj
  | big c =>
    obtain ⟨k1, k2, k3⟩ := wf.big p c hx
    obtain rfl : j = 0 := by have := (List.getElem?_eq_some_iff.1 hj).1; simp only [Pg.flags, List.length_singleton] at this; omega
    have hc : (⟨F + p * G, c * G, true, true⟩ : Rc) ∈ cellsP F G pgs := mem_cellsP.2 ⟨p, _, hx, by simp [Pg.cells]⟩
    obtain ⟨m, hm', em⟩ := List.getElem_of_mem hc
    have hr := Rel.unlarge (u := false) g0 (Rel.mk (List.Perm.refl _) wf) hx (show (cellsP F G pgs)[m]? = some _ by rw [List.getElem?_eq_getElem hm', em])
    refine ⟨?_, k1, k2, k3, hr.wf, Or.inr (Or.inr ⟨p, c, hx, by simpa [Pg.size] using hn, rfl, rfl, rfl⟩)⟩
    show pagesI G (c * G) = c
    have h1 := Int.mul_le_mul_of_nonneg_right (show (1 : Int) ≤ c by omega) (show 0 ≤ G by omega)
    rw [pagesI_even (by omega) (by omega) (Int.mul_emod_left _ _), Int.mul_ediv_cancel _ (by omega)]
  | blk s us =>
    obtain ⟨s0, s1, hl, _⟩ := wf.blk p s us hx
    have hm : true ∉ us.set j false := hm
    refine ⟨?_, Nat.le_refl _, hp, fun i h1 h2 => by simp only [Pg.count] at h2; omega, ?_, Or.inr (Or.inl ⟨p, j, s, us, hx, hj, hn, rfl, Or.inr ⟨hm, fill_one _ hp, rfl⟩⟩)⟩
    · show pagesI G s = 1
      rw [pagesI, if_neg (by omega), Int.ediv_eq_zero_of_lt (by omega) (by omega)]
      rfl
    · show WF G (fill pgs .free p 1)
      rw [fill_one _ hp]
      exact wf.turn hx (Or.inr ⟨s, us, rfl⟩) (Or.inl rfl)

/-- What the loop that empties pages keeps. -/
def EmpI (w0 wr : World) (b pb : Nat) (ub : Nat → Nat) (F G : Int) (pgs : List Pg) (ps : List Bool) (p m : Nat) : Prop :=
  SpB wr b F G pb pgs.length ∧ Blk wr pb (flat4 pgs.length (zeroF (stF G pgs ub ps) p m)).toArray 166 ∧
  (∀ (i : Nat) (x : Pg), pgs[i]? = some x → x.first = true → i ≠ p → Blk wr (ub i) (x.flags.map Value.bool).toArray 4) ∧ Frm (SpS b pb ub pgs) w0 wr

theorem EmpI.next {w0 wr : World} {b pb : Nat} {ub : Nat → Nat} {F G : Int} {pgs : List Pg} {ps : List Bool} {p m : Nat} (h : EmpI w0 wr b pb ub F G pgs ps p m) (hm : p + m < pgs.length) :
    EmpI w0 ((((wr.setCell ⟨pb, (p + m) * 4, none⟩ (.int .i64 0)).setCell ⟨pb, (p + m) * 4 + 1, none⟩ (.int .i64 0)).setCell ⟨pb, (p + m) * 4 + 2, none⟩ (.slice none 0 0)).setCell ⟨pb, (p + m) * 4 + 3, none⟩ (.bool false)) b pb ub F G pgs ps p (m + 1) := by
  obtain ⟨h1, h2, h3, h4⟩ := h
  have ne : b ≠ pb := Blk.ne_ h1 h2 (by decide)
  refine ⟨Blk.far (Blk.far (Blk.far (Blk.far h1 ne _) ne _) ne _) ne _, ?_, fun i x hx hf hn => ?_, ?_⟩
  · rw [← zeroF_next]
    exact h2.set4 (zeroF_four (stF_four G pgs ub ps) p m) (p + m) hm _ _ _ _
  · have hb := h3 i x hx hf hn
    have ne2 : ub i ≠ pb := Blk.ne_ hb h2 (by decide)
    exact (((hb.far ne2 _).far ne2 _).far ne2 _).far ne2 _
  · exact (((h4.setCell (p := ⟨pb, (p + m) * 4, none⟩) (fun _ => Or.inr (Or.inl rfl)) _).setCell (p := ⟨pb, (p + m) * 4 + 1, none⟩) (fun _ => Or.inr (Or.inl rfl)) _).setCell (p := ⟨pb, (p + m) * 4 + 2, none⟩) (fun _ => Or.inr (Or.inl rfl)) _).setCell (p := ⟨pb, (p + m) * 4 + 3, none⟩) (fun _ => Or.inr (Or.inl rfl)) _

end Go.Proofs.YthmhehehomieiaaGreat

/- Contracts of the program's row and roomy. -/
namespace Go.Proofs.YthmhehehomieiaaGreat
open Go.RowKit

/-- The first of C free pages, side by side. -/
def RowA (pgs : List Pg) (C : Nat) (u : Value) : Prop :=
  (∃ p : Nat, p + C ≤ pgs.length ∧ Run pgs p C ∧ (∀ q : Nat, q < p → ¬ Run pgs q C) ∧ u = yesV p) ∨ ((∀ q : Nat, q + C ≤ pgs.length → ¬ Run pgs q C) ∧ u = noT)

def RowR (pgs : List Pg) (C : Nat) (w : World) (e : Ending) (w' : World) : Prop := ∃ u, e = .returned u ∧ RowA pgs C u ∧ Below w.heap.size w w'

/-- What is known at page k: m pages before it are free, not m + 1; and none of the first k pages begin C free ones that end there. -/
def RowI (pgs : List Pg) (C k m : Nat) : Prop := m ≤ k ∧ m < C ∧ Run pgs (k - m) m ∧ (m < k → pgs[k - m - 1]? ≠ some .free) ∧ ∀ q : Nat, q + C ≤ k → ¬ Run pgs q C

theorem RowI.start {pgs : List Pg} {C : Nat} (h : 1 ≤ C) : RowI pgs C 0 0 := ⟨Nat.le_refl _, h, fun i h1 h2 => by omega, fun h => by omega, fun q hq => by omega⟩

theorem RowI.other {pgs : List Pg} {C k m : Nat} {x : Pg} (h : RowI pgs C k m) (hx : pgs[k]? = some x) (hn : x.isFree = false) : RowI pgs C (k + 1) 0 := by
  have nf : pgs[k]? ≠ some .free := fun e => by rw [hx] at e; cases e; cases hn
  have h1 := h.2.1
  refine ⟨Nat.zero_le _, by omega, fun i h1 h2 => by omega, fun _ => ?_, fun q hq hr => ?_⟩
  · rw [show k + 1 - 0 - 1 = k by omega]
    exact nf
  · by_cases e : q + C ≤ k
    · exact h.2.2.2.2 q e hr
    · exact nf (hr k (by omega) (by omega))

theorem RowI.run {pgs : List Pg} {C k m : Nat} (h : RowI pgs C k m) (hx : pgs[k]? = some .free) : Run pgs (k - m) (m + 1) := fun i h1 h2 => by
  by_cases e : i = k
  · subst e; exact hx
  · have := h.1
    exact h.2.2.1 i h1 (by omega)

theorem RowI.more {pgs : List Pg} {C k m : Nat} (h : RowI pgs C k m) (hx : pgs[k]? = some .free) (hC : m + 1 ≠ C) : RowI pgs C (k + 1) (m + 1) := by
  obtain ⟨h0, h1, h2, h3, h4⟩ := h
  have hr := RowI.run ⟨h0, h1, h2, h3, h4⟩ hx
  refine ⟨by omega, by omega, ?_, fun hlt => ?_, fun q hq hr => ?_⟩
  · rw [show k + 1 - (m + 1) = k - m by omega]
    exact hr
  · rw [show k + 1 - (m + 1) - 1 = k - m - 1 by omega]
    exact h3 (by omega)
  · by_cases e : q + C ≤ k
    · exact h4 q e hr
    · exact h3 (by omega) (hr (k - m - 1) (by omega) (by omega))

theorem RowI.found {pgs : List Pg} {C k m : Nat} (h : RowI pgs C k m) (hx : pgs[k]? = some .free) (hC : m + 1 = C) : RowA pgs C (yesV ((k : Int) - C + 1)) := by
  have hk := (List.getElem?_eq_some_iff.1 hx).1
  have hr := h.run hx
  have h0 := h.1
  refine Or.inl ⟨k - m, by omega, by rw [← hC]; exact hr, fun q hq => h.2.2.2.2 q (by omega), ?_⟩
  congr 1
  omega

theorem isFree_iff {x : Pg} (h : x.kind = 0) : x = .free := by cases x <;> simp_all [Pg.kind]

theorem isFree_not {x : Pg} (h : ¬ x.kind = 0) : x.isFree = false := by cases x <;> simp_all [Pg.kind, Pg.isFree]

set_option maxHeartbeats 4000000 in
theorem row_any (b pb : Nat) (ub : Nat → Nat) (F G : Int) (pgs : List Pg) (ps : List Bool) (C : Nat) (w : World) (h : IsSp w b pb ub F G pgs ps) (hC : 1 ≤ C) (hm : (C : Int) ≤ 9223372036854775807) :
    Calls Tryz.prog 168 #[spP b, .int .i64 C] w (RowR pgs C w) := by
  have few := h.p1
  rw [← h.len] at few
  obtain ⟨c0, c1, c2, cf⟩ := h.sp.three
  have HH := Lib.hid h
  obtain ⟨N, hN⟩ : ∃ N, pgs.length = N := ⟨_, rfl⟩
  rw [hN] at few c2
  have HN := Lib.hid hN
  clear h hN c0 c1
  unfold spP
  go_enter Tryz.func168, Tryz.ntmps168
  go_wp2_with fail
  clear c2 cf
  go_loopw [6, 14] (fun s s14 wr => ∃ (k m : Nat), k ≤ N ∧ s14 = .int .i64 k ∧ s = .int .i64 m ∧ m ≤ k ∧ Hid (RowI pgs C k m) ∧ Below w.heap.size w wr) (fun _ s14 _ => N - (intOf s14).toNat)
  case atStart => exact ⟨0, 0, Nat.zero_le _, rfl, rfl, Nat.le_refl _, Lib.hid (RowI.start hC), Below.refl _ _⟩
  case round =>
    obtain ⟨k, m, hk, rfl, rfl, mk, HR, bb⟩ := hrel
    by_cases hlt : k < N
    · obtain ⟨x, hx⟩ : ∃ x, pgs[k]? = some x := ⟨_, List.getElem?_eq_getElem (by have := HN.out; omega)⟩
      obtain ⟨p, hp, d0, d1, d2, d3, df⟩ := (HH.out.keep bb).at_ hx
      have HX := Lib.hid hx
      clear hx hp
      by_cases fk : x.kind = 0
      · rw [fk] at d0
        have hf := HX.out
        rw [isFree_iff fk] at hf
        have HF := Lib.hid hf
        clear hf
        by_cases e : m + 1 = C
        · have R := Lib.hid (HR.out.found HF.out e)
          have e1 : (m : Int) + 1 = (C : Int) := by omega
          have E1 := Lib.hid e1
          have e2 : ((m : Int) + 1 == (C : Int)) = true := by simpa using e1
          clear e e1
          go_wp2
          go_ret2
          exact ⟨_, rfl, R.out, bb.alloc bb.size _⟩
        · have R := Lib.hid (HR.out.more HF.out e)
          have e2 : ((m : Int) + 1 == (C : Int)) = false := by
            have : ¬ ((m : Int) + 1 = (C : Int)) := by omega
            simpa using this
          go_wp2
          go_roundw
          case rel => exact ⟨k + 1, m + 1, by omega, by go_num, by go_num, by omega, R, bb.alloc bb.size _⟩
          case measure => simp [intOf]; omega
      · have R := Lib.hid (HR.out.other HX.out (isFree_not fk))
        have fk1 : (x.kind == 0) = false := by simpa using fk
        have fk2 : (x.kind != 0) = true := by simpa using fk
        go_wp2
        go_roundw
        case rel => exact ⟨k + 1, 0, by omega, by go_num, rfl, by omega, R, bb.alloc bb.size _⟩
        case measure => simp [intOf]; omega
    · obtain rfl : k = N := by omega
      have R := Lib.hid (show RowA pgs C noT from Or.inr ⟨fun q hq => HR.out.2.2.2.2 q (by rw [← HN.out]; exact hq), rfl⟩)
      go_wp2
      go_ret2
      exact ⟨_, rfl, R.out, bb⟩

/-- The first block of a size in which a cell may be taken. -/
def RoomyA (pgs : List Pg) (ps : List Bool) (s : Int) (u : Value) : Prop := (∃ p : Nat, RoomP pgs ps s p ∧ (∀ q : Nat, q < p → ¬ RoomP pgs ps s q) ∧ u = yesV p) ∨ ((∀ q : Nat, ¬ RoomP pgs ps s q) ∧ u = noT)

def RoomyR (pgs : List Pg) (ps : List Bool) (s : Int) (w : World) (e : Ending) (w' : World) : Prop := ∃ u, e = .returned u ∧ RoomyA pgs ps s u ∧ Below w.heap.size w w'

theorem room_next {pgs : List Pg} {ps : List Bool} {s : Int} {k : Nat} (h : ∀ q : Nat, q < k → ¬ RoomP pgs ps s q) (hn : ¬ RoomP pgs ps s k) : ∀ q : Nat, q < k + 1 → ¬ RoomP pgs ps s q := fun q hq => by
  by_cases e : q = k
  · subst e; exact hn
  · exact h q (by omega)

theorem kind_blk {x : Pg} (h : x.kind = 1) : ∃ s us, x = .blk s us := by
  cases x with
  | blk s us => exact ⟨s, us, rfl⟩
  | _ => cases h

set_option maxHeartbeats 4000000 in
theorem roomy_any (b pb : Nat) (ub : Nat → Nat) (F G : Int) (pgs : List Pg) (ps : List Bool) (s : Int) (w : World) (h : IsSp w b pb ub F G pgs ps) :
    Calls Tryz.prog 169 #[spP b, .int .i64 s] w (RoomyR pgs ps s w) := by
  have few := h.p1
  rw [← h.len] at few
  obtain ⟨c0, c1, c2, cf⟩ := h.sp.three
  have HH := Lib.hid h
  obtain ⟨N, hN⟩ : ∃ N, pgs.length = N := ⟨_, rfl⟩
  rw [hN] at few c2
  have HN := Lib.hid hN
  clear h hN c0 c1
  unfold spP
  go_enter Tryz.func169, Tryz.ntmps169
  go_wp2_with fail
  clear c2 cf
  go_loopw [13] (fun s13 wr => ∃ (k : Nat), k ≤ N ∧ s13 = .int .i64 k ∧ Hid (∀ q : Nat, q < k → ¬ RoomP pgs ps s q) ∧ Below w.heap.size w wr) (fun s13 _ => N - (intOf s13).toNat)
  case atStart => exact ⟨0, Nat.zero_le _, rfl, Lib.hid (fun q hq => by omega), Below.refl _ _⟩
  case round =>
    obtain ⟨k, hk, rfl, HR, bb⟩ := hrel
    by_cases hlt : k < N
    · obtain ⟨x, hx⟩ : ∃ x, pgs[k]? = some x := ⟨_, List.getElem?_eq_getElem (by have := HN.out; omega)⟩
      have hi := HH.out.keep bb
      obtain ⟨p, hp, d0, d1, d2, d3, df⟩ := hi.at_ hx
      have HX := Lib.hid hx
      have HP := Lib.hid hp
      clear hp
      have bN := Lib.hid (bb.alloc bb.size (.cells #[.int .i64 x.kind, .int .i64 (x.size G), .slice (x.adr (ub k)) x.flags.length x.flags.length, .bool p] 166))
      by_cases fk : x.kind = 1
      · obtain ⟨s', us, rfl⟩ := kind_blk fk
        have fl := (hi.fl k _ hx rfl).alloc (.cells #[.int .i64 1, .int .i64 s', .slice (some ⟨ub k, 0, none⟩) us.length us.length, .bool p] 166)
        have fz := (hi.small hx).2.2.2.2.1
        have HC := Lib.hid (contains_any (ub k) us false _ fl (by have : us.length ≤ 64 := fz; omega))
        have d0' : wr.cell? ⟨pb, k * 4, none⟩ = some (.int .i64 1) := d0
        have d1' : wr.cell? ⟨pb, k * 4 + 1, none⟩ = some (.int .i64 s') := d1
        have d2' : wr.cell? ⟨pb, k * 4 + 2, none⟩ = some (.slice (some ⟨ub k, 0, none⟩) us.length us.length) := d2
        clear hx hi d0 d1 d2 fl fz fk
        by_cases es : s' = s
        · subst es
          cases p with
          | true =>
            have R := Lib.hid (room_next HR.out (by rintro ⟨vs, e1, e2, e3⟩; rw [HP.out] at e2; cases e2))
            go_wp2
            go_roundw
            case rel => exact ⟨k + 1, by omega, by go_num, R, bN.out⟩
            case measure => simp [intOf]; omega
          | false =>
            cases hv : hasV us false
            · rw [hv] at HC
              have R := Lib.hid (room_next HR.out (by
                rintro ⟨vs, e1, e2, e3⟩
                rw [HX.out] at e1
                cases e1
                exact of_decide_eq_false hv e3))
              clear hv
              go_wp2_with fail
              refine HC.out.mono ?_
              rintro e w1 ⟨rfl, rfl⟩
              go_wp2
              go_roundw
              case rel => exact ⟨k + 1, by omega, by go_num, R, bN.out⟩
              case measure => simp [intOf]; omega
            · rw [hv] at HC
              have R := Lib.hid (show RoomyA pgs ps s' (yesV k) from Or.inl ⟨k, ⟨us, HX.out, HP.out, of_decide_eq_true hv⟩, HR.out, rfl⟩)
              clear hv
              go_wp2_with fail
              refine HC.out.mono ?_
              rintro e w1 ⟨rfl, rfl⟩
              go_wp2
              go_ret2
              exact ⟨_, rfl, R.out, bN.out⟩
        · have R := Lib.hid (room_next HR.out (by
            rintro ⟨vs, e1, e2, e3⟩
            rw [HX.out] at e1
            cases e1
            exact es rfl))
          have es1 : (s' == s) = false := by simpa using es
          go_wp2
          go_roundw
          case rel => exact ⟨k + 1, by omega, by go_num, R, bN.out⟩
          case measure => simp [intOf]; omega
      · have R := Lib.hid (room_next HR.out (by
          rintro ⟨vs, e1, e2, e3⟩
          rw [HX.out] at e1
          cases e1
          exact fk rfl))
        have fk1 : (x.kind == 1) = false := by simpa using fk
        clear hx hi
        go_wp2
        go_roundw
        case rel => exact ⟨k + 1, by omega, by go_num, R, bN.out⟩
        case measure => simp [intOf]; omega
    · obtain rfl : k = N := by omega
      have R := Lib.hid (show RoomyA pgs ps s noT from Or.inr ⟨fun q hr => by
        by_cases hq : q < k
        · exact HR.out q hq hr
        · obtain ⟨us, e1, _⟩ := hr
          have := (List.getElem?_eq_some_iff.1 e1).1
          have := HN.out
          omega, rfl⟩)
      go_wp2
      go_ret2
      exact ⟨_, rfl, R.out, bb⟩
end Go.Proofs.YthmhehehomieiaaGreat

/- Contract of the program's takePages. -/
namespace Go.Proofs.YthmhehehomieiaaGreat
open Go.RowKit

def updU (ub : Nat → Nat) (p nb : Nat) (i : Nat) : Nat := if i = p then nb else ub i

section
variable {w w' : World} {b pb : Nat} {ub : Nat → Nat} {F G : Int} {pgs : List Pg} {ps : List Bool}

/-- A page becomes one that has cells, whose flags lie in a new block. -/
theorem IsSp.made (h : IsSp w b pb ub F G pgs ps) {pgs' : List Pg} {p nb : Nat} {y : Pg} (hl : pgs'.length = pgs.length) (hp : pgs'[p]? = some y) (hy : y.first = true)
    (ho : ∀ (i : Nat) (x : Pg), i ≠ p → pgs'[i]? = some x → x.first = true → pgs[i]? = some x) (hk : ∀ (i : Nat) (x : Pg), i ≠ p → pgs[i]? = some x → x.first = true → pgs'[i]? = some x)
    (hw : WF G pgs') (hn : w.heap.size ≤ nb) (hs : SpB w' b F G pb pgs.length) (hg : Blk w' pb (flat4 pgs.length (stF G pgs' (updU ub p nb) ps)).toArray 166)
    (hf : ∀ (i : Nat) (x : Pg), pgs[i]? = some x → x.first = true → Blk w' (ub i) (x.flags.map Value.bool).toArray 4) (hb : Blk w' nb (y.flags.map Value.bool).toArray 4) :
    IsSp w' b pb (updU ub p nb) F G pgs' ps := by
  refine { h with sp := by rw [hl]; exact hs, pg := by rw [hl]; exact hg, fl := fun i x hx hfx => ?_, inj := fun i k x z hx hz hfx hfz e => ?_, pend := fun i hi => ?_, wf := hw, len := hl.trans h.len }
  · by_cases e : i = p
    · subst e
      rw [hp] at hx
      cases hx
      rw [updU, if_pos rfl]
      exact hb
    · rw [updU, if_neg e]
      exact hf i x (ho i x e hx hfx) hfx
  · unfold updU at e
    by_cases e1 : i = p
    · by_cases e2 : k = p
      · rw [e1, e2]
      · rw [if_pos e1, if_neg e2] at e
        have := (h.fl k z (ho k z e2 hz hfz) hfz).lt
        omega
    · by_cases e2 : k = p
      · rw [if_neg e1, if_pos e2] at e
        have := (h.fl i x (ho i x e1 hx hfx) hfx).lt
        omega
      · rw [if_neg e1, if_neg e2] at e
        exact h.inj i k x z (ho i x e1 hx hfx) (ho k z e2 hz hfz) hfx hfz e
  · obtain ⟨x, hx, hfx⟩ := h.pend i hi
    by_cases e : i = p
    · subst e; exact ⟨y, hp, hy⟩
    · exact ⟨x, hk i x e hx hfx, hfx⟩

theorem Blk.set1 {w : World} {pb N : Nat} {f : Nat → List Value} {T : TypeId} (hf : ∀ i, (f i).length = 4) (h : Blk w pb (flat4 N f).toArray T) (i : Nat) (hi : i < N) {v0 v1 v2 v3 : Value} (hv : f i = [v0, v1, v2, v3]) (v : Value) :
    Blk (w.setCell ⟨pb, i * 4, none⟩ v) pb (flat4 N (setF f i [v, v1, v2, v3])).toArray T := by
  have hb := h.set_ (i * 4) v
  have e : (flat4 N f).toArray.setIfInBounds (i * 4) v = (flat4 N (setF f i [v, v1, v2, v3])).toArray := by
    apply Array.ext'
    simp only [Array.toList_setIfInBounds]
    have hl := flat4_length hf N
    refine flat4_ext (setF_four hf i rfl) (by rw [List.length_set, flat4_length hf]) fun k j hk hj => ?_
    by_cases ek : k = i
    · subst ek
      rw [show setF f k [v, v1, v2, v3] k = [v, v1, v2, v3] from if_pos rfl]
      by_cases ej : j = 0
      · subst ej; rw [Nat.add_zero, List.getElem?_set_self (by omega)]; rfl
      · rw [List.getElem?_set_ne (by omega), flat4_at hf hk hj, hv]
        obtain rfl | rfl | rfl : j = 1 ∨ j = 2 ∨ j = 3 := by omega
        all_goals rfl
    · rw [List.getElem?_set_ne (by omega), flat4_at hf hk hj, show setF f i [v, v1, v2, v3] k = f k from if_neg ek]
  rw [← e]
  exact hb

def later4 : List Value := [.int .i64 3, .int .i64 0, .slice none 0 0, .bool false]

def laterF (f : Nat → List Value) (p m : Nat) (i : Nat) : List Value := if p ≤ i ∧ i < p + m then later4 else f i

theorem laterF_four {f : Nat → List Value} (hf : ∀ i, (f i).length = 4) (p m i : Nat) : (laterF f p m i).length = 4 := by unfold laterF; split; exact rfl; exact hf i

theorem laterF_next (f : Nat → List Value) (p m : Nat) : setF (laterF f p m) (p + m) later4 = laterF f p (m + 1) := by
  funext i
  unfold setF laterF
  by_cases e : i = p + m
  · rw [if_pos e, if_pos ⟨by omega, by omega⟩]
  · rw [if_neg e]
    by_cases c : p ≤ i ∧ i < p + m
    · rw [if_pos c, if_pos ⟨by omega, by omega⟩]
    · rw [if_neg c, if_neg (by omega)]

theorem laterF_none (f : Nat → List Value) (p : Nat) : laterF f p 0 = f := by
  funext i
  unfold laterF
  rw [if_neg (by omega)]

/-- What the loop that takes pages keeps. -/
def LatI (w0 wr : World) (b pb : Nat) (ub : Nat → Nat) (F G : Int) (pgs : List Pg) (ps : List Bool) (p m : Nat) : Prop :=
  SpB wr b F G pb pgs.length ∧ Blk wr pb (flat4 pgs.length (laterF (stF G pgs ub ps) p m)).toArray 166 ∧
  (∀ (i : Nat) (x : Pg), pgs[i]? = some x → x.first = true → Blk wr (ub i) (x.flags.map Value.bool).toArray 4) ∧ Frm (SpS b pb ub pgs) w0 wr

theorem LatI.next {w0 wr : World} {p m : Nat} (h : LatI w0 wr b pb ub F G pgs ps p m) (hm : p + m < pgs.length) (hf : stF G pgs ub ps (p + m) = zero4) :
    LatI w0 (wr.setCell ⟨pb, (p + m) * 4, none⟩ (.int .i64 3)) b pb ub F G pgs ps p (m + 1) := by
  obtain ⟨h1, h2, h3, h4⟩ := h
  have ne : b ≠ pb := Blk.ne_ h1 h2 (by decide)
  refine ⟨Blk.far h1 ne _, ?_, fun i x hx hfx => ?_, ?_⟩
  · rw [← laterF_next]
    exact h2.set1 (laterF_four (stF_four G pgs ub ps) p m) (p + m) hm (show laterF (stF G pgs ub ps) p m (p + m) = zero4 by rw [laterF, if_neg (by omega)]; exact hf) _
  · have hb := h3 i x hx hfx
    exact hb.far (Blk.ne_ hb h2 (by decide)) _
  · exact h4.setCell (p := ⟨pb, (p + m) * 4, none⟩) (fun _ => Or.inr (Or.inl rfl)) _

theorem LatI.keep {w0 wr wr' : World} {p m : Nat} (h : LatI w0 wr b pb ub F G pgs ps p m) (b2 : Below wr.heap.size wr wr') : LatI w0 wr' b pb ub F G pgs ps p m :=
  ⟨Blk.keep h.1 b2, h.2.1.keep b2, fun i x hx hf => (h.2.2.1 i x hx hf).keep b2, h.2.2.2.trans (Frm.of_below (S := SpS b pb ub pgs) b2) (fun _ _ h => h)⟩

theorem LatI.cells {w0 wr : World} {p m i : Nat} (h : LatI w0 wr b pb ub F G pgs ps p m) (hi : i < pgs.length) {v0 v1 v2 v3 : Value} (hv : laterF (stF G pgs ub ps) p m i = [v0, v1, v2, v3]) :
    wr.cell? ⟨pb, i * 4, none⟩ = some v0 ∧ wr.cell? ⟨pb, i * 4 + 1, none⟩ = some v1 ∧ wr.cell? ⟨pb, i * 4 + 2, none⟩ = some v2 ∧ wr.cell? ⟨pb, i * 4 + 3, none⟩ = some v3 ∧ ∀ k, wr.frozen? ⟨pb, k, none⟩ = false := by
  have cell : ∀ t, t < 4 → wr.cell? ⟨pb, i * 4 + t, none⟩ = [v0, v1, v2, v3][t]? := fun t ht => by
    rw [h.2.1.cell, List.getElem?_toArray, flat4_at (laterF_four (stF_four G pgs ub ps) p m) hi ht, hv]
  exact ⟨cell 0 (by omega), cell 1 (by omega), cell 2 (by omega), cell 3 (by omega), h.2.1.frozen⟩
end

theorem setCell_size (w : World) (p : Addr) (u : Value) : (w.setCell p u).heap.size = w.heap.size := by simp [World.setCell]

/-- Four cells of a page's state are written, and a block is made. -/
def putS (wr : World) (pb p : Nat) (v0 v1 v2 v3 : Value) : World := (((wr.setCell ⟨pb, p * 4, none⟩ v0).setCell ⟨pb, p * 4 + 1, none⟩ v1).setCell ⟨pb, p * 4 + 2, none⟩ v2).setCell ⟨pb, p * 4 + 3, none⟩ v3

theorem putS_size (wr : World) (pb p : Nat) (v0 v1 v2 v3 : Value) : (putS wr pb p v0 v1 v2 v3).heap.size = wr.heap.size := by
  unfold putS; rw [setCell_size, setCell_size, setCell_size, setCell_size]

theorem Blk.putS {wr : World} {c pb p : Nat} {cs : Array Value} {T : TypeId} (h : Blk wr c cs T) (hn : c ≠ pb) (v0 v1 v2 v3 : Value) : Blk (putS wr pb p v0 v1 v2 v3) c cs T :=
  (((h.far hn _).far hn _).far hn _).far hn _

theorem Frm.putS {S : Nat → Prop} {a wr : World} {pb p : Nat} (h : Frm S a wr) (hp : S pb) (v0 v1 v2 v3 : Value) : Frm S a (putS wr pb p v0 v1 v2 v3) :=
  (((h.setCell (p := ⟨pb, p * 4, none⟩) (fun _ => hp) _).setCell (p := ⟨pb, p * 4 + 1, none⟩) (fun _ => hp) _).setCell (p := ⟨pb, p * 4 + 2, none⟩) (fun _ => hp) _).setCell (p := ⟨pb, p * 4 + 3, none⟩) (fun _ => hp) _

/-- What is large is there. -/
theorem LatI.big {w wr : World} {b pb : Nat} {ub : Nat → Nat} {F G : Int} {pgs : List Pg} {ps : List Bool} {p C : Nat} (h : IsSp w b pb ub F G pgs ps) (hL : LatI w wr b pb ub F G pgs ps p C) (hp : p + C ≤ pgs.length) (hC : 1 ≤ C) (hr : Run pgs p C) :
    IsSp ((putS wr pb p (.int .i64 2) (.int .i64 (C * G)) (.slice (some ⟨wr.heap.size, 0, none⟩) 1 1) (.bool false)).alloc (.cells #[.bool true] 4)).drew b pb (updU ub p wr.heap.size) F G (bigAt pgs p C) ps ∧
    Frm (SpS b pb ub pgs) w ((putS wr pb p (.int .i64 2) (.int .i64 (C * G)) (.slice (some ⟨wr.heap.size, 0, none⟩) 1 1) (.bool false)).alloc (.cells #[.bool true] 4)).drew ∧
    ∀ k, SpS b pb (updU ub p wr.heap.size) (bigAt pgs p C) k → SpS b pb ub pgs k ∨ w.heap.size ≤ k := by
  obtain ⟨h1, h2, h3, h4⟩ := hL
  have ne : b ≠ pb := Blk.ne_ h1 h2 (by decide)
  have at_ := fun i hi => bigAt_at pgs p C i hi
  have len : (bigAt pgs p C).length = pgs.length := by rw [bigAt, List.length_set, fill_length]
  have hl := h.len
  have ho : ∀ (i : Nat) (x : Pg), i ≠ p → (bigAt pgs p C)[i]? = some x → x.first = true → pgs[i]? = some x := fun i x hne hx hf => by
    have hi := (List.getElem?_eq_some_iff.1 hx).1
    rw [len] at hi
    rw [at_ i hi, if_neg hne] at hx
    split at hx
    · cases hx; cases hf
    · exact hx
  have hk : ∀ (i : Nat) (x : Pg), i ≠ p → pgs[i]? = some x → x.first = true → (bigAt pgs p C)[i]? = some x := fun i x hne hx hf => by
    have hi := (List.getElem?_eq_some_iff.1 hx).1
    rw [at_ i hi, if_neg hne, if_neg (fun hh => by rw [hr i hh.1 hh.2] at hx; cases hx; cases hf)]
    exact hx
  have hpp : (bigAt pgs p C)[p]? = some (.big C) := by rw [at_ p (by omega), if_pos rfl]
  have hg : flat4 pgs.length (stF G (bigAt pgs p C) (updU ub p wr.heap.size) ps) = flat4 pgs.length (setF (laterF (stF G pgs ub ps) p C) p [.int .i64 2, .int .i64 (C * G), .slice (some ⟨wr.heap.size, 0, none⟩) 1 1, .bool false]) := flat4_congr fun i hi => by
    have hq : ps[i]? = some (ps[i]'(by omega)) := List.getElem?_eq_getElem (by omega)
    unfold setF
    by_cases e : i = p
    · subst e
      rw [if_pos rfl, stF_at hpp (h.idle (hr i (by omega) (by omega)) rfl)]
      simp [stV, Pg.kind, Pg.size, Pg.row, Pg.adr, Pg.first, Pg.flags, updU]
    · rw [if_neg e]
      unfold laterF
      by_cases c : p ≤ i ∧ i < p + C
      · rw [if_pos c, stF_at (x := .rest) (by rw [at_ i hi, if_neg e, if_pos c]) (h.idle (hr i c.1 c.2) rfl)]
        rfl
      · rw [if_neg c, stF_at (x := pgs[i]) (by rw [at_ i hi, if_neg e, if_neg c]; exact List.getElem?_eq_getElem hi) hq, stF_at (List.getElem?_eq_getElem hi) hq]
        simp [updU, e]
  have nb : Blk ((putS wr pb p (.int .i64 2) (.int .i64 (C * G)) (.slice (some ⟨wr.heap.size, 0, none⟩) 1 1) (.bool false)).alloc (.cells #[.bool true] 4)) wr.heap.size #[.bool true] 4 := by
    have h := Blk.new (putS wr pb p (.int .i64 2) (.int .i64 (C * G)) (.slice (some ⟨wr.heap.size, 0, none⟩) 1 1) (.bool false)) #[.bool true] 4
    rwa [putS_size] at h
  refine ⟨h.made len hpp rfl ho hk ?_ h4.size (Blk.drew (Blk.alloc (Blk.putS h1 ne _ _ _ _) _)) ?_ (fun i x hx hf => (((h3 i x hx hf).putS (Blk.ne_ (h3 i x hx hf) h2 (by decide)) _ _ _ _).alloc _).drew) nb.drew, ((h4.putS (Or.inr (Or.inl rfl)) _ _ _ _).alloc _).drew, fun k hk2 => ?_⟩
  · exact (Rel.large (F := F) (Rel.mk (List.Perm.refl _) h.wf) hp hC hr).wf
  · rw [hg]
    exact ((h2.set4 (laterF_four (stF_four G pgs ub ps) p C) p (by omega) _ _ _ _).alloc _).drew
  · rcases hk2 with rfl | rfl | ⟨i, x, hx, hf, rfl⟩
    · exact Or.inl (Or.inl rfl)
    · exact Or.inl (Or.inr (Or.inl rfl))
    · unfold updU
      by_cases e : i = p
      · rw [if_pos e]; exact Or.inr h4.size
      · rw [if_neg e]; exact Or.inl (Or.inr (Or.inr ⟨i, x, ho i x e hx hf, hf, rfl⟩))

/-- How a Take ends. -/
def TookM (b pb : Nat) (ub : Nat → Nat) (F G : Int) (pgs : List Pg) (ps : List Bool) (w : World) (T : Value → List Pg → Prop) (e : Ending) (w' : World) : Prop :=
  ∃ u pgs' ub', e = .returned u ∧ T u pgs' ∧ IsSp w' b pb ub' F G pgs' ps ∧ Frm (SpS b pb ub pgs) w w' ∧ ∀ k, SpS b pb ub' pgs' k → SpS b pb ub pgs k ∨ w.heap.size ≤ k

set_option maxHeartbeats 8000000 in
set_option maxRecDepth 100000 in
theorem takePages_any (b pb : Nat) (ub : Nat → Nat) (F G : Int) (pgs : List Pg) (ps : List Bool) (C : Nat) (w : World) (h : IsSp w b pb ub F G pgs ps) (hC : 1 ≤ C) (hm : (C : Int) ≤ 9223372036854775807) :
    Calls Tryz.prog 151 #[spP b, .int .i64 C] w (TookM b pb ub F G pgs ps w (TakeLA F G pgs C)) := by
  have HR := Lib.hid (row_any b pb ub F G pgs ps C w h hC hm)
  have few := h.p1
  rw [← h.len] at few
  have f0 := h.f0
  have f1 := h.f1
  have g0 := h.g0
  have g1 := h.g1
  have HH := Lib.hid h
  obtain ⟨N, hN⟩ : ∃ N, pgs.length = N := ⟨_, rfl⟩
  rw [hN] at few
  have HN := Lib.hid hN
  clear h hN
  unfold spP at HR ⊢
  go_enter Tryz.func151, Tryz.ntmps151
  go_wp2_with fail
  refine HR.out.mono ?_
  rintro e w1 ⟨u, rfl, hA, b1⟩
  rcases hA with ⟨p, hp, hr, hq, rfl⟩ | ⟨hq, rfl⟩
  · have hi := HH.out.keep b1
    have L0 : Hid (LatI w w1 b pb ub F G pgs ps p 0) := Lib.hid ⟨hi.sp, by rw [laterF_none]; exact hi.pg, hi.fl, Frm.of_below b1⟩
    have ZR := Lib.hid (show ∀ i : Nat, p ≤ i → i < p + C → stF G pgs ub ps i = zero4 from fun i h1 h2 => stF_at (hr i h1 h2) (hi.idle (hr i h1 h2) rfl))
    have RR := Lib.hid (And.intro hp (And.intro hr hq))
    rw [HN.out] at hp
    unfold yesV
    clear hr hq hi
    go_wp2_with fail
    go_loopw [18] (fun s18 wr => ∃ m : Nat, m ≤ C ∧ s18 = .int .i64 m ∧ Hid (LatI w wr b pb ub F G pgs ps p m)) (fun s18 _ => C - (intOf s18).toNat)
    case atStart => exact ⟨0, Nat.zero_le _, rfl, L0⟩
    case round =>
      clear L0
      obtain ⟨m, hm2, rfl, HL⟩ := hrel
      obtain ⟨y0, y1, y2, y3⟩ := HL.out.1.three
      rw [HN.out] at y2
      by_cases mlt : m < C
      · obtain ⟨k0, k1, k2, k3, kf⟩ := HL.out.cells (i := p + m) (by rw [HN.out]; omega) (show _ = zero4 by rw [laterF, if_neg (by omega)]; exact ZR.out (p + m) (by omega) (by omega))
        clear y0 y1 k1 k2 k3
        go_wp2
        go_roundw
        case rel => exact ⟨m + 1, by omega, by go_num, Lib.hid (HL.out.next (by rw [HN.out]; omega) (ZR.out (p + m) (by omega) (by omega)))⟩
        case measure => simp [intOf]; omega
      · obtain rfl : m = C := by omega
        obtain ⟨k0, k1, k2, k3, kf⟩ := HL.out.cells (i := p) (by rw [HN.out]; omega) (show _ = later4 by rw [laterF, if_pos ⟨by omega, by omega⟩])
        have cG := page_in (G := G) (i := m) g0 g1 (by omega) (by omega)
        have hw1 : IntKind.i64.wrap ((m : Int) * G) = (m : Int) * G := IntWalk.i64_in _ (by omega)
        have p0 : (0 : Int) ≤ p := by omega
        have p1 : (p : Int) < N := by omega
        have bl : b < wr.heap.size := Blk.lt HL.out.1
        have pl : pb < wr.heap.size := HL.out.2.1.lt
        go_wp2_with fail
        clear y0
        go_region
        all_goals
          have HB := Lib.hid (LatI.big HH.out HL.out RR.out.1 hC RR.out.2.1)
          unfold putS at HB
          generalize World.drew (World.alloc _ _) = W3 at HB ⊢
          have KB := Lib.hid (begin_any b F G p pb (bigAt pgs p m).length _ HB.out.1.sp f0 f1 g0 g1 (by omega) (by omega))
          unfold spP at KB
          clear k0 k1 k2 k3 kf y1 y2 y3 hw1
          go_wp2_with fail
          refine KB.out.mono ?_
          rintro e w2 ⟨rfl, m2, rfl⟩
          go_wp2
          go_ret2
          exact ⟨_, bigAt pgs p m, updU ub p wr.heap.size, rfl, Or.inl ⟨p, RR.out.1, RR.out.2.1, RR.out.2.2, rfl, rfl⟩, HB.out.1.keep (below_drewN _ m2), HB.out.2.1.drewN m2, HB.out.2.2⟩
  · have R := Lib.hid (show TakeLA F G pgs C noT pgs from Or.inr ⟨hq, rfl, rfl⟩)
    clear hq
    unfold noT
    go_wp2
    go_ret2
    exact ⟨_, pgs, ub, rfl, R.out, HH.out.keep b1, Frm.of_below b1, fun k hk => Or.inl hk⟩
end Go.Proofs.YthmhehehomieiaaGreat

/- Contract of the program's takeCell. -/
namespace Go.Proofs.YthmhehehomieiaaGreat
open Go.RowKit

theorem cells_quiet (p s : Int) (w : World) (hp : p ≤ 9223372036854775807) : Calls Tryz.prog 170 #[.int .i64 p, .int .i64 s] w fun e w' => e = .returned (.int .i64 (cellsI p s)) ∧ w = w' := cells_any p s w hp

theorem us0_eq (K : Nat) : (List.replicate K false).set 0 true = us0 K := by
  apply List.ext_getElem?
  intro i
  unfold us0
  rw [List.getElem?_map]
  by_cases hi : i < K
  · rw [List.getElem?_range hi]
    by_cases e : i = 0
    · subst e; rw [List.getElem?_set_self (by simpa using hi)]; rfl
    · rw [List.getElem?_set_ne (by omega), List.getElem?_replicate, if_pos hi]; simp [e]
  · rw [List.getElem?_eq_none (by simp; omega), List.getElem?_eq_none (by simp; omega)]; rfl

theorem idx_new (K : Nat) (hK : 1 ≤ K) : idxI (List.replicate K false) false = 0 := by
  obtain ⟨m, rfl⟩ : ∃ m, K = m + 1 := ⟨K - 1, by omega⟩
  rfl

/-- What is known when a page has been made a block, whose cells are not in use. -/
def NewI (w0 wr : World) (b pb nb : Nat) (ub : Nat → Nat) (F G : Int) (pgs : List Pg) (ps : List Bool) (p K : Nat) (s : Int) : Prop :=
  SpB wr b F G pb pgs.length ∧ Blk wr pb (flat4 pgs.length (setF (stF G pgs ub ps) p [.int .i64 1, .int .i64 s, .slice (some ⟨nb, 0, none⟩) K K, .bool false])).toArray 166 ∧
  (∀ (i : Nat) (x : Pg), pgs[i]? = some x → x.first = true → Blk wr (ub i) (x.flags.map Value.bool).toArray 4) ∧ Blk wr nb ((List.replicate K false).map Value.bool).toArray 4 ∧ w0.heap.size ≤ nb ∧ Frm (SpS b pb ub pgs) w0 wr

section
variable {w wr : World} {b pb nb : Nat} {ub : Nat → Nat} {F G : Int} {pgs : List Pg} {ps : List Bool} {p K : Nat} {s : Int}

theorem NewI.cells (h : NewI w wr b pb nb ub F G pgs ps p K s) (hp : p < pgs.length) : wr.cell? ⟨pb, p * 4 + 2, none⟩ = some (.slice (some ⟨nb, 0, none⟩) K K) ∧ ∀ k, wr.frozen? ⟨pb, k, none⟩ = false := by
  refine ⟨?_, h.2.1.frozen⟩
  rw [h.2.1.cell, List.getElem?_toArray, flat4_at (setF_four (stF_four G pgs ub ps) p rfl) hp (by omega)]
  unfold setF
  rw [if_pos rfl]
  rfl

/-- Its first cell is taken. -/
theorem NewI.taken (h0 : IsSp w b pb ub F G pgs ps) (h : NewI w wr b pb nb ub F G pgs ps p K s) (hx : pgs[p]? = some .free) (s0 : 4 ≤ s) (s1 : s ≤ G / 2) (hK : K = (G / s).toNat) :
    IsSp (wr.setCell ⟨nb, 0, none⟩ (.bool true)) b pb (updU ub p nb) F G (pgs.set p (.blk s (us0 K))) ps ∧ Frm (SpS b pb ub pgs) w (wr.setCell ⟨nb, 0, none⟩ (.bool true)) ∧
    ∀ k, SpS b pb (updU ub p nb) (pgs.set p (.blk s (us0 K))) k → SpS b pb ub pgs k ∨ w.heap.size ≤ k := by
  obtain ⟨h1, h2, h3, h4, h5, h6⟩ := h
  have hp := (List.getElem?_eq_some_iff.1 hx).1
  have hl := h0.len
  have at_ : ∀ i : Nat, (pgs.set p (.blk s (us0 K)))[i]? = if i = p then some (.blk s (us0 K)) else pgs[i]? := fun i => by
    by_cases e : i = p
    · subst e; rw [List.getElem?_set_self hp, if_pos rfl]
    · rw [List.getElem?_set_ne (by omega), if_neg e]
  have ho : ∀ (i : Nat) (x : Pg), i ≠ p → (pgs.set p (.blk s (us0 K)))[i]? = some x → x.first = true → pgs[i]? = some x := fun i x hne hx _ => by rw [at_, if_neg hne] at hx; exact hx
  have hk : ∀ (i : Nat) (x : Pg), i ≠ p → pgs[i]? = some x → x.first = true → (pgs.set p (.blk s (us0 K)))[i]? = some x := fun i x hne hx _ => by rw [at_, if_neg hne]; exact hx
  have lk : (us0 K).length = K := by simp [us0]
  have hg : flat4 pgs.length (stF G (pgs.set p (.blk s (us0 K))) (updU ub p nb) ps) = flat4 pgs.length (setF (stF G pgs ub ps) p [.int .i64 1, .int .i64 s, .slice (some ⟨nb, 0, none⟩) K K, .bool false]) := flat4_congr fun i hi => by
    have hq : ps[i]? = some (ps[i]'(by omega)) := List.getElem?_eq_getElem (by omega)
    unfold setF
    by_cases e : i = p
    · subst e
      rw [if_pos rfl, stF_at (by rw [at_, if_pos rfl]) (h0.idle hx rfl)]
      simp [stV, Pg.kind, Pg.size, Pg.row, Pg.adr, Pg.first, Pg.flags, updU, lk]
    · rw [if_neg e, stF_at (x := pgs[i]) (by rw [at_, if_neg e]; exact List.getElem?_eq_getElem hi) hq, stF_at (List.getElem?_eq_getElem hi) hq]
      simp [updU, e]
  have fne : ∀ (i : Nat) (x : Pg), pgs[i]? = some x → x.first = true → ub i ≠ nb := fun i x hx hf => by
    have := (h0.fl i x hx hf).lt
    omega
  have wf : WF G (pgs.set p (.blk s (us0 K))) := by
    subst hK
    exact (Rel.fresh (F := F) (Rel.mk (List.Perm.refl _) h0.wf) hx s0 s1).wf
  have nbl : Blk (wr.setCell ⟨nb, 0, none⟩ (.bool true)) nb ((us0 K).map Value.bool).toArray 4 := by
    have h := h4.setBool 0 true
    rwa [us0_eq K] at h
  refine ⟨h0.made (y := .blk s (us0 K)) (by rw [List.length_set]) (by rw [at_, if_pos rfl]) rfl ho hk wf h5 (Blk.far h1 (Blk.ne_ h1 h4 (by decide)) _) ?_ (fun i x hx hf => (h3 i x hx hf).far (fne i x hx hf) _) nbl, h6.setCell (p := ⟨nb, 0, none⟩) (fun hlt => by have : nb < w.heap.size := hlt; omega) _, fun k hk2 => ?_⟩
  · rw [hg]
    exact h2.far (Blk.ne_ h2 h4 (by decide)) _
  · rcases hk2 with rfl | rfl | ⟨i, x, hx, hf, rfl⟩
    · exact Or.inl (Or.inl rfl)
    · exact Or.inl (Or.inr (Or.inl rfl))
    · unfold updU
      by_cases e : i = p
      · rw [if_pos e]; exact Or.inr h5
      · rw [if_neg e]; exact Or.inl (Or.inr (Or.inr ⟨i, x, ho i x e hx hf, hf, rfl⟩))
end

theorem NewI.start {w w2 : World} {b pb : Nat} {ub : Nat → Nat} {F G : Int} {pgs : List Pg} {ps : List Bool} {p K : Nat} {s : Int} (h : IsSp w2 b pb ub F G pgs ps) (hb : Below w.heap.size w w2) (hp : p < pgs.length) :
    NewI w (((putS w2 pb p (.int .i64 1) (.int .i64 s) (.slice (some ⟨w2.heap.size, 0, none⟩) K K) (.bool false)).alloc (.cells (Array.replicate K (Value.bool false)) 4)).drew) b pb w2.heap.size ub F G pgs ps p K s := by
  refine ⟨Blk.drew (Blk.alloc (Blk.putS h.sp h.b_ne _ _ _ _) _), ((h.pg.set4 (stF_four G pgs ub ps) p hp _ _ _ _).alloc _).drew, fun i x hx hf => (((h.fl i x hx hf).putS (h.f_ne hx hf) _ _ _ _).alloc _).drew, ?_, hb.size, (((Frm.of_below hb).putS (Or.inr (Or.inl rfl)) _ _ _ _).alloc _).drew⟩
  have k := Blk.new (putS w2 pb p (.int .i64 1) (.int .i64 s) (.slice (some ⟨w2.heap.size, 0, none⟩) K K) (.bool false)) (Array.replicate K (Value.bool false)) 4
  rw [putS_size] at k
  have e : ((List.replicate K false).map Value.bool).toArray = Array.replicate K (Value.bool false) := by simp
  rw [e]
  exact k.drew

set_option maxHeartbeats 8000000 in
set_option maxRecDepth 100000 in
theorem takeCell_any (b pb : Nat) (ub : Nat → Nat) (F G : Int) (pgs : List Pg) (ps : List Bool) (s : Int) (w : World) (h : IsSp w b pb ub F G pgs ps) (s0 : 4 ≤ s) (s1 : s ≤ G / 2) :
    Calls Tryz.prog 153 #[spP b, .int .i64 s] w (TookM b pb ub F G pgs ps w (TakeSA F G ps pgs s)) := by
  have HR := Lib.hid (roomy_any b pb ub F G pgs ps s w h)
  have few := h.p1
  rw [← h.len] at few
  have f0 := h.f0
  have f1 := h.f1
  have g0 := h.g0
  have g1 := h.g1
  have HH := Lib.hid h
  obtain ⟨N, hN⟩ : ∃ N, pgs.length = N := ⟨_, rfl⟩
  rw [hN] at few
  have HN := Lib.hid hN
  clear h hN
  unfold spP at HR ⊢
  go_enter Tryz.func153, Tryz.ntmps153
  go_wp2_with fail
  refine HR.out.mono ?_
  rintro e w1 ⟨u, rfl, hA, b1⟩
  clear HR
  rcases hA with ⟨p, ⟨us, hx, hps, hfm⟩, hq, rfl⟩ | ⟨hq, rfl⟩
  · have hi := HH.out.keep b1
    obtain ⟨y0, y1, y2, y3⟩ := hi.sp.three
    rw [HN.out] at y2
    have hp := (List.getElem?_eq_some_iff.1 hx).1
    rw [HN.out] at hp
    obtain ⟨q, _, d0, d1, d2, d3, df⟩ := hi.at_ hx
    have fb := hi.fl p _ hx rfl
    have fz := (hi.small hx).2.2.2.2.1
    have hI := index_any (ub p) us false w1 fb (by have : us.length ≤ 64 := fz; omega)
    rcases idxI_cases us false with ⟨j, ej, hj, hjm⟩ | ⟨_, hno⟩
    · rw [ej] at hI
      have HI := Lib.hid hI
      have jl := (List.getElem?_eq_some_iff.1 hj).1
      have fj := fb.bools hj
      have ffz := fb.frozen
      have fz : us.length ≤ 64 := fz
      have SF := Lib.hid (hi.setFlag (j := j) hx true (by
        obtain ⟨k1, k2, k3, _⟩ := HH.out.wf.blk p s us hx
        exact HH.out.wf.turn hx (Or.inr ⟨s, us, rfl⟩) (Or.inr ⟨s, _, rfl, k1, k2, by rw [List.length_set]; exact k3, List.mem_set jl true⟩)))
      have FR := Lib.hid ((Frm.of_below (S := SpS b pb ub pgs) b1).setCell (p := ⟨ub p, j, none⟩) (fun _ => Or.inr (Or.inr ⟨p, _, hx, rfl, rfl⟩)) (.bool true))
      have KB := Lib.hid (begin_any b F G p pb _ _ SF.out.sp f0 f1 g0 g1 (by omega) (by omega))
      have d2' : w1.cell? ⟨pb, p * 4 + 2, none⟩ = some (.slice (some ⟨ub p, 0, none⟩) us.length us.length) := d2
      have RR := Lib.hid (show TakeSA F G ps pgs s (yesV (F + p * G + j * s)) (pgs.set p (.blk s (us.set j true))) from Or.inl ⟨p, j, us, hx, hps, hj, hjm, hq, rfl, rfl⟩)
      have SS := Lib.hid (show ∀ k, SpS b pb ub (pgs.set p (.blk s (us.set j true))) k → SpS b pb ub pgs k ∨ w.heap.size ≤ k from fun k hk => by
        rcases hk with rfl | rfl | ⟨i, x, hx2, hf, rfl⟩
        · exact Or.inl (Or.inl rfl)
        · exact Or.inl (Or.inr (Or.inl rfl))
        · by_cases e : i = p
          · subst e; exact Or.inl (Or.inr (Or.inr ⟨i, _, hx, rfl, rfl⟩))
          · rw [List.getElem?_set_ne (by omega)] at hx2; exact Or.inl (Or.inr (Or.inr ⟨i, x, hx2, hf, rfl⟩)))
      have pG := page_in (G := G) (i := p) g0 g1 (by omega) (by omega)
      have js : 0 ≤ (j : Int) * s ∧ (j : Int) * s ≤ 16384 := by
        have h0 : 0 ≤ (j : Int) * s := Int.mul_nonneg (by omega) (by omega)
        have h1 := Int.mul_le_mul_of_nonneg_right (show (j : Int) ≤ 64 by omega) (show 0 ≤ s by omega)
        omega
      unfold spP at KB
      unfold yesV
      clear hI hi hx hps hfm hq hj hjm ej fb d0 d1 d2 d3 y0 y1
      go_wp2_with fail
      refine HI.out.mono ?_
      rintro e w2 ⟨rfl, rfl⟩
      go_wp2_with fail
      refine KB.out.mono ?_
      rintro e w2 ⟨rfl, m2, rfl⟩
      go_wp2
      go_ret2
      exact ⟨_, _, ub, rfl, RR.out, SF.out.keep (below_drewN _ m2), FR.out.drewN m2, SS.out⟩
    · exact absurd hfm hno
  · have HR1 := Lib.hid (row_any b pb ub F G pgs ps 1 w1 (HH.out.keep b1) (by omega) (by omega))
    unfold spP at HR1
    unfold noT
    have NR := Lib.hid hq
    clear hq
    go_wp2_with fail
    refine HR1.out.mono ?_
    rintro e w2 ⟨u, rfl, hA, b2⟩
    clear HR1
    have bb := below_trans b1 b2
    rcases hA with ⟨p, hp, hr, hq, rfl⟩ | ⟨hq, rfl⟩
    · have hx := hr p (Nat.le_refl _) (by omega)
      have R := Lib.hid (show TakeSA F G ps pgs s (yesV (F + p * G)) (pgs.set p (.blk s (us0 (G / s).toNat))) from Or.inr ⟨NR.out, Or.inl ⟨p, hx, fun q hq2 e => hq q hq2 (fun i h1 h2 => (show q = i by omega) ▸ e), rfl, rfl⟩⟩)
      have hi := HH.out.keep bb
      obtain ⟨y0, y1, y2, y3⟩ := hi.sp.three
      rw [HN.out] at y2 hp
      obtain ⟨q, hq3, d0, d1, d2, d3, df⟩ := hi.at_ hx
      have q2 : 2 ≤ G / s := (Int.le_ediv_iff_mul_le (by omega)).2 (by omega)
      have q3 : G / s ≤ G := Int.ediv_le_self s (by omega)
      have ec : cellsI G s = G / s := by rw [cellsI, if_neg (by omega)]
      obtain ⟨K, hK⟩ : ∃ K : Nat, G / s = K := ⟨(G / s).toNat, by omega⟩
      have HC := Lib.hid (fun W => cells_any G s W (by omega))
      rw [ec, hK] at HC
      rw [hK] at q2 q3 R
      rw [Int.toNat_natCast] at R
      have HK := Lib.hid hK
      have bl : b < w2.heap.size := Blk.lt hi.sp
      have pl : pb < w2.heap.size := hi.pg.lt
      have hmk := run_make_bool K (by omega) (by omega)
      have HX := Lib.hid hx
      have p0 : (0 : Int) ≤ p := by omega
      have p1 : (p : Int) < N := by omega
      have NW := Lib.hid (NewI.start (K := K) (s := s) hi bb (p := p) (by rw [HN.out]; omega))
      unfold putS at NW
      unfold yesV
      clear hr hq ec hK hi hq3 hx
      go_wp2_with fail
      go_region_held3 (fun w' => w'.cell? ⟨b, 1, none⟩ = some (.int .i64 G) ∧ w'.cell? ⟨b, 2, none⟩ = some (.slice (some ⟨pb, 0, none⟩) N N)) (first | exact ⟨NW.out.1.three.2.1, HN.out ▸ NW.out.1.three.2.2.1⟩ | go_keep)
        (first
        | (go_at_call 170; refine (HC.out _).mono ?_; rintro e w3 ⟨rfl, rfl⟩))
      all_goals
        generalize World.drew (World.alloc _ _) = W3 at NW ⊢
        have NT := Lib.hid (NW.out.taken HH.out HX.out s0 s1 (by have := HK.out; omega))
        have hI := index_any w2.heap.size (List.replicate K false) false W3 NW.out.2.2.2.1 (by rw [List.length_replicate]; omega)
        rw [idx_new K (by omega), List.length_replicate] at hI
        have HI := Lib.hid hI
        have z2 := NW.out.1.three.2.2.1
        have z3 := NW.out.1.three.2.2.2
        rw [HN.out] at z2
        obtain ⟨k2, kf⟩ := NW.out.cells (by rw [HN.out]; omega)
        have n0 := NW.out.2.2.2.1.bools (i := 0) (x := false) (by rw [List.getElem?_replicate, if_pos (by omega)])
        have nf := NW.out.2.2.2.1.frozen
        have KB := Lib.hid (begin_any b F G p pb _ _ NT.out.1.sp f0 f1 g0 g1 (by omega) (by omega))
        have pG := page_in (G := G) (i := p) g0 g1 (by omega) (by omega)
        unfold spP at KB
        clear hI NW d0 d1 d2 d3 df y0 y1 y2 y3 hmk bl pl
        go_wp2_with fail
        refine HI.out.mono ?_
        rintro e w3 ⟨rfl, rfl⟩
        go_wp2_with fail
        refine KB.out.mono ?_
        rintro e w3 ⟨rfl, m2, rfl⟩
        go_wp2
        go_ret2
        exact ⟨_, _, _, rfl, R.out, NT.out.1.keep (below_drewN _ m2), NT.out.2.1.drewN m2, NT.out.2.2⟩
    · have R := Lib.hid (show TakeSA F G ps pgs s noT pgs from Or.inr ⟨NR.out, Or.inr ⟨fun q e => hq q (by have := (List.getElem?_eq_some_iff.1 e).1; omega) (fun i h1 h2 => (show q = i by omega) ▸ e), rfl, rfl⟩⟩)
      clear hq
      unfold noT
      go_wp2
      go_ret2
      exact ⟨_, pgs, ub, rfl, R.out, HH.out.keep bb, Frm.of_below bb, fun k hk => Or.inl hk⟩
end Go.Proofs.YthmhehehomieiaaGreat

/- Contract of the program's Starts. -/
namespace Go.Proofs.YthmhehehomieiaaGreat
open Go.RowKit

/-- What is so far: the row, and which cells were met. -/
def StI (w0 : Nat) (wr : World) (v : Value) (ys : List Int) (f t : Int) (cs : List Rc) : Prop := OwnI wr w0 v ys ∧ ys = (cs.filter (inR f t)).map Rc.pos

theorem StI.skip {w0 : Nat} {wr : World} {v : Value} {ys : List Int} {f t : Int} {ds cs : List Rc} {j : Nat} {c : Rc} (h : StI w0 wr v ys f t (ds ++ cs.take j)) (hc : cs[j]? = some c) (hn : inR f t c = false) : StI w0 wr v ys f t (ds ++ cs.take (j + 1)) := by
  refine ⟨h.1, ?_⟩
  rw [starts_append, filter_snoc hc, hn, if_neg Bool.false_ne_true, List.append_nil, ← starts_append]
  exact h.2

theorem StI.push {w0 : Nat} {wr w1 : World} {v v1 : Value} {ys : List Int} {f t : Int} {ds cs : List Rc} {j : Nat} {c : Rc} (h : StI w0 wr v ys f t (ds ++ cs.take j)) (hc : cs[j]? = some c) (hn : inR f t c = true) (ho : OwnI w1 w0 v1 (ys ++ [c.pos])) : StI w0 w1 v1 (ys ++ [c.pos]) f t (ds ++ cs.take (j + 1)) := by
  refine ⟨ho, ?_⟩
  rw [starts_append, filter_snoc hc, hn, if_pos rfl, ← List.append_assoc, ← starts_append, ← h.2]

theorem StI.below {w0 : Nat} {wr w1 : World} {v : Value} {ys : List Int} {f t : Int} {cs : List Rc} (h : StI w0 wr v ys f t cs) (b : Below wr.heap.size wr w1) : StI w0 w1 v ys f t cs := ⟨h.1.below b, h.2⟩

/-- The row grows: a block of another type stays. -/
theorem Blk.grown {W w1 : World} {base : Nat} {v : Value} {ys : List Int} {c : Nat} {cs : Array Value} {T : TypeId} (h : Blk W c cs T) (hT : T ≠ 3) (ho : OwnI W base v ys) (hg : W.grownBy w1 v.ownBlock) : Blk w1 c cs T := by
  refine (hg.block c h.lt fun e => ?_).trans h
  rcases ho.2 with ⟨rfl, _⟩ | ⟨g, cap, cur, rfl, _, hB, _⟩
  · simp [Value.ownBlock] at e
  · have hB : Blk W g cur 3 := hB
    have : c = g := by simpa [Value.ownBlock] using e
    subst this
    exact Blk.ne_ h hB hT rfl

set_option maxHeartbeats 8000000 in
set_option maxRecDepth 100000 in
theorem mStarts_any (b pb : Nat) (ub : Nat → Nat) (F G : Int) (pgs : List Pg) (ps : List Bool) (f t : Int) (w : World) (h : IsSp w b pb ub F G pgs ps) :
    Calls Tryz.prog 160 #[spP b, .int .i64 f, .int .i64 t] w fun e w' => ∃ u, e = .returned u ∧ OwnI w' w.heap.size u (startsP F G pgs f t) ∧ Below w.heap.size w w' := by
  have few := h.p1
  rw [← h.len] at few
  have f0 := h.f0
  have f1 := h.f1
  have g0 := h.g0
  have g1 := h.g1
  have HH := Lib.hid h
  have HA := Lib.hid (mAll_any b F G pb pgs.length w h.sp)
  obtain ⟨N, hN⟩ : ∃ N, pgs.length = N := ⟨_, rfl⟩
  rw [hN] at HA few
  have HN := Lib.hid hN
  clear h hN
  obtain ⟨i0, hi, hz, hs, hb⟩ := info_parts info_int
  have HI0 := Lib.hid (And.intro hi (And.intro hz (And.intro hs hb)))
  clear hi hz hs hb
  unfold spP at HA ⊢
  go_enter Tryz.func160, Tryz.ntmps160
  go_wp2_with fail
  refine HA.out.mono ?_
  rintro e w1 ⟨rfl, rfl⟩
  go_wp2_with fail
  go_loopw [7, 16] (fun s7 s16 wr => ∃ (k : Nat) (ys : List Int), k ≤ N ∧ s16 = .int .i64 k ∧ ys.length ≤ 64 * k ∧ Hid (StI w.heap.size wr s7 ys f t (cellsP F G (pgs.take k))) ∧ Below w.heap.size w wr) (fun _ s16 _ => N - (intOf s16).toNat)
  case atStart => exact ⟨0, [], Nat.zero_le _, rfl, Nat.zero_le _, Lib.hid ⟨World.ownsRow_nil _ _ _ _, by rw [List.take_zero]; rfl⟩, Below.refl _ _⟩
  case round =>
    obtain ⟨k, ys, hk, rfl, yl, HY, bb⟩ := hrel
    generalize wr = wo at *
    by_cases hlt : k < N
    · obtain ⟨x, hx⟩ : ∃ x, pgs[k]? = some x := ⟨_, List.getElem?_eq_getElem (by have := HN.out; omega)⟩
      have hi := HH.out.keep bb
      obtain ⟨p, hp, d0, d1, d2, d3, df⟩ := hi.at_ hx
      obtain ⟨_, _, z0, z1, z2, _⟩ := hi.small hx
      have HX := Lib.hid hx
      have kG := page_in (G := G) (i := k) g0 g1 (by omega) (by omega)
      clear hx hp hi
      have B1 := Lib.hid (bb.alloc bb.size (.cells #[.int .i64 x.kind, .int .i64 (x.size G), .slice (x.adr (ub k)) x.flags.length x.flags.length, .bool p] 166))
      have C1 := Lib.hid (Blk.new wo #[.int .i64 x.kind, .int .i64 (x.size G), .slice (x.adr (ub k)) x.flags.length x.flags.length, .bool p] 166)
      have Y1 := Lib.hid (HY.out.below ((Below.refl _ wo).alloc (Nat.le_refl _) (.cells #[.int .i64 x.kind, .int .i64 (x.size G), .slice (x.adr (ub k)) x.flags.length x.flags.length, .bool p] 166)))
      clear bb HY
      go_wp2_with fail
      clear d0 d1 d2 d3 df
      go_loopw [7, 24] (fun s7 s24 wi => ∃ (j : Nat) (zs : List Int), j ≤ x.flags.length ∧ s24 = .int .i64 j ∧ zs.length ≤ 64 * k + j ∧ Hid (StI w.heap.size wi s7 zs f t (cellsP F G (pgs.take k) ++ (x.cells F G k).take j)) ∧ Hid (Blk wi wo.heap.size #[.int .i64 x.kind, .int .i64 (x.size G), .slice (x.adr (ub k)) x.flags.length x.flags.length, .bool p] 166) ∧ Below w.heap.size w wi) (fun _ s24 _ => x.flags.length - (intOf s24).toNat)
      case atStart => exact ⟨0, ys, Nat.zero_le _, rfl, by omega, Lib.hid (by rw [List.take_zero, List.append_nil]; exact Y1.out), C1, B1.out⟩
      case round =>
        clear B1 C1 Y1
        obtain ⟨j, zs, hj, rfl, zl, HZ, HC, bb⟩ := hrel
        by_cases jlt : j < x.flags.length
        · have hi := HH.out.keep bb
          obtain ⟨y, hy, ea, e4, e5⟩ := hi.flag HX.out jlt
          have c1 := HC.out.cell 1
          have cf := HC.out.frozen
          have KB := Lib.hid (fun m => begin_any b F G k pb pgs.length (wr.drewN m) (hi.keep (below_drewN _ m)).sp f0 f1 g0 g1 (by omega) (by omega))
          unfold spP at KB
          have hcell := Lib.hid (Pg.cells_at F G k x jlt)
          have js : 0 ≤ (j : Int) * x.size G ∧ (j : Int) * x.size G ≤ 1048576 := by
            have h0 : 0 ≤ (j : Int) * x.size G := Int.mul_nonneg (by omega) z0
            have h1 := Int.mul_le_mul_of_nonneg_right (show (j : Int) ≤ 64 by omega) z0
            omega
          have hu := Lib.hid (show (x.cell F G k j).used = y from by show x.flags.getD j false = y; rw [List.getD_eq_getElem?_getD, hy]; rfl)
          have hw1 : IntKind.i64.wrap ((j : Int) * x.size G) = (j : Int) * x.size G := IntWalk.i64_in _ (by omega)
          obtain ⟨A, hA⟩ : ∃ A, F + (k : Int) * G + (j : Int) * x.size G = A := ⟨_, rfl⟩
          have a0 : 0 ≤ A := by omega
          have a1 : A ≤ 4000000 := by omega
          have hw2 : IntKind.i64.wrap (F + (k : Int) * G + (j : Int) * x.size G) = A := by rw [hA]; exact IntWalk.i64_in _ (by omega)
          have hpos := Lib.hid (show (x.cell F G k j).pos = A from hA)
          have jl2 : (j : Int) < (x.flags.length : Int) := by omega
          have c1 : wr.cell? ⟨wo.heap.size, 1, none⟩ = some (.int .i64 (x.size G)) := c1
          clear hy hi hA
          rw [ea]
          rw [ea] at HC
          clear ea
          go_wp2_with fail
          go_big_quiet ((go_at_call 165; refine Calls.quiet_of (KB.out _)))
          generalize hW : wr.drewN _ = W2
          have b2 : Below wr.heap.size wr W2 := hW ▸ below_drewN wr _
          have HZ2 := Lib.hid (HZ.out.below b2)
          have HC2 := Lib.hid (HC.out.keep b2)
          have BB := Lib.hid (below_trans bb b2)
          clear hW b2 c1 cf KB e4 e5 hw1 hw2 HZ HC bb js
          cases y
          · have R := Lib.hid (HZ2.out.skip hcell.out (by rw [inR, hu.out]; rfl))
            go_wp2
            go_roundw
            case rel => exact ⟨j + 1, zs, by omega, by go_num, by omega, R, HC2, BB.out⟩
            case measure => simp [intOf]; omega
          · by_cases q1 : f ≤ A
            · by_cases q2 : A < t
              · have inn := Lib.hid (show inR f t (x.cell F G k j) = true from by rw [inR, hu.out, hpos.out, decide_eq_true q1, decide_eq_true q2]; rfl)
                obtain ⟨bo, bcap, eo, _⟩ := HZ2.out.1.at_
                subst eo
                have O2 := Lib.hid (HZ2.out.1.alloc (.cells #[.int .i64 A] 3))
                have B2 := Lib.hid (BB.out.alloc BB.out.size (.cells #[.int .i64 A] 3))
                have C2 := Lib.hid (HC2.out.alloc (.cells #[.int .i64 A] 3))
                go_wp2_with (first
                  | (at_builtin; (refine wpList_append_own_at _ rfl _ _ 39 rfl w.heap.size 3 i0 (.int .i64 0) 1 8 Tryz.underlying39 HI0.out.1 HI0.out.2.1 HI0.out.2.2.1 HI0.out.2.2.2 rfl (by decide) _ _ _ rfl O2.out ⟨W2.heap.size, 0, none⟩ 1 1 [.int .i64 A] rfl rfl ?c1 ?c2 ?c3 ?c4 ?c5 ?_))
                  | fail)
                case c1 => exact fun j u hj => by have := cell_one_new W2 (.int .i64 A) 3 j u hj; simpa using this
                case c2 => intro x hx; simp at hx; subst hx; rfl
                case c3 => unfold maxLen; omega
                case c4 => omega
                case c5 => exact B2.out.size
                intro v1 w1 hown1 hgrow1 _ _
                have b1 := Lib.hid (below_grown B2.out O2.out hgrow1)
                have cc := Lib.hid (C2.out.grown (by decide) O2.out hgrow1)
                have o1 := OwnI.snoc hown1
                have R := Lib.hid (HZ2.out.push hcell.out inn.out (by rw [hpos.out]; exact o1))
                rw [hpos.out] at R
                obtain ⟨bo1, cap1, e1, _⟩ := o1.at_
                subst e1
                clear hown1 hgrow1 o1 O2 B2 C2 HZ2 HC2 BB
                go_wp2
                go_roundw
                case rel => exact ⟨j + 1, zs ++ [A], by omega, by go_num, by rw [List.length_append, List.length_singleton]; omega, R, cc, b1.out⟩
                case measure => simp [intOf]; omega
              · have R := Lib.hid (HZ2.out.skip hcell.out (by rw [inR, hpos.out, decide_eq_false q2, Bool.and_false]))
                go_wp2
                go_roundw
                case rel => exact ⟨j + 1, zs, by omega, by go_num, by omega, R, HC2, BB.out⟩
                case measure => simp [intOf]; omega
            · have R := Lib.hid (HZ2.out.skip hcell.out (by rw [inR, hpos.out, decide_eq_false q1, Bool.and_false, Bool.false_and]))
              go_wp2
              go_roundw
              case rel => exact ⟨j + 1, zs, by omega, by go_num, by omega, R, HC2, BB.out⟩
              case measure => simp [intOf]; omega
        · obtain rfl : j = x.flags.length := by omega
          have R := Lib.hid (show StI w.heap.size wr _ zs f t (cellsP F G (pgs.take (k + 1))) from by
            have h := HZ.out
            rw [← Pg.cells_length F G k x, List.take_length, ← cellsP_take F G HX.out] at h
            exact h)
          go_wp2
          go_roundw
          case rel => exact ⟨k + 1, zs, by omega, by go_num, by omega, R, bb⟩
          case measure => simp [intOf]; omega
    · obtain rfl : k = N := by omega
      have D := Lib.hid (show OwnI wo w.heap.size _ (startsP F G pgs f t) from by
        have h := HY.out
        rw [← HN.out, List.take_length] at h
        have e := h.2
        rw [startsP, ← e]
        exact h.1)
      go_wp2
      go_ret
      exact ⟨_, rfl, D.out, bb⟩
end Go.Proofs.YthmhehehomieiaaGreat

/- Contracts of the program's Free, Pending, Page. -/
namespace Go.Proofs.YthmhehehomieiaaGreat
open Go.RowKit

theorem kind_free (x : Pg) : (x.kind = 0) = (x.isFree = true) := by cases x <;> simp [Pg.kind, Pg.isFree]

end Go.Proofs.YthmhehehomieiaaGreat

/- Contracts of the program's Take and New; and the program's space has all that is asked of it. -/
namespace Go.Proofs.YthmhehehomieiaaGreat
open Go.RowKit

set_option maxHeartbeats 4000000 in
theorem mTake_any (b pb : Nat) (ub : Nat → Nat) (F G : Int) (pgs : List Pg) (ps : List Bool) (n : Int) (w : World) (h : IsSp w b pb ub F G pgs ps) (n1 : n ≤ 9223372036854775807) :
    Calls Tryz.prog 119 #[spP b, .int .i64 n] w (TookM b pb ub F G pgs ps w (TakeA F G ps pgs n)) := by
  have HH := Lib.hid h
  obtain ⟨c0, c1, c2, cf⟩ := h.sp.three
  have g0 := h.g0
  have g1 := h.g1
  by_cases hn : n < 1
  · have R := Lib.hid (show TakeA F G ps pgs n noT pgs from Or.inl ⟨hn, rfl, rfl⟩)
    clear h c0 c1 c2
    unfold spP
    go_enter Tryz.func119, Tryz.ntmps119
    go_wp2
    go_ret2
    exact ⟨_, pgs, ub, rfl, R.out, HH.out, Frm.refl _ _, fun k hk => Or.inl hk⟩
  · have hd : largeB G n = decide (G / 2 < roundI n) := by rw [largeB, tdiv_of (by omega)]
    have hL := large_any G n w (by omega) (by omega)
    rw [hd] at hL
    by_cases hl : G / 2 < roundI n
    · have he := pagesI_enough (p := G) (n := n) g0 (by omega)
      rw [decide_eq_true hl] at hL
      obtain ⟨C, hC⟩ : ∃ C : Nat, pagesI G n = C := ⟨(pagesI G n).toNat, by omega⟩
      have hP := pages_any G n w n1
      rw [hC] at hP
      have hT := takePages_any b pb ub F G pgs ps C w h (by omega) (by omega)
      have W := Lib.hid (show ∀ u pgs', TakeLA F G pgs C u pgs' → TakeA F G ps pgs n u pgs' from fun u pgs' ht => Or.inr (Or.inl ⟨hn, hl, by rw [hC, Int.toNat_natCast]; exact ht⟩))
      have HL := Lib.hid hL
      have HP := Lib.hid hP
      have HT := Lib.hid hT
      clear h c0 c2 hL hP hT he hC hd hl
      unfold spP at HT ⊢
      go_enter Tryz.func119, Tryz.ntmps119
      go_wp2_with fail
      refine HL.out.mono ?_
      rintro e w1 ⟨rfl, rfl⟩
      go_wp2_with fail
      refine HP.out.mono ?_
      rintro e w1 ⟨rfl, rfl⟩
      go_wp2_with fail
      refine HT.out.mono ?_
      rintro e w1 ⟨u, pgs', ub', rfl, ht, hi, hf, hs⟩
      have HI := Lib.hid (And.intro (W.out u pgs' ht) (And.intro hi (And.intro hf hs)))
      have hu : (∃ x y, u = .tuple #[.int .i64 x, .bool y]) := by
        rcases ht with ⟨p, _, _, _, rfl, _⟩ | ⟨_, rfl, _⟩
        · exact ⟨_, _, rfl⟩
        · exact ⟨_, _, rfl⟩
      obtain ⟨x, y, rfl⟩ := hu
      clear ht hi hf hs
      go_wp2
      go_ret2
      exact ⟨_, pgs', ub', rfl, HI.out.1, HI.out.2.1, HI.out.2.2.1, HI.out.2.2.2⟩
    · rw [decide_eq_false hl] at hL
      have hT := takeCell_any b pb ub F G pgs ps (roundI n) w h (roundI_in n).1 (by omega)
      have W := Lib.hid (show ∀ u pgs', TakeSA F G ps pgs (roundI n) u pgs' → TakeA F G ps pgs n u pgs' from fun u pgs' ht => Or.inr (Or.inr ⟨hn, hl, ht⟩))
      have HL := Lib.hid hL
      have HT := Lib.hid hT
      clear h c0 c2 hL hT hd hl
      unfold spP at HT ⊢
      go_enter Tryz.func119, Tryz.ntmps119
      go_wp2_with fail
      refine HL.out.mono ?_
      rintro e w1 ⟨rfl, rfl⟩
      go_wp2_with fail
      refine (round_any n w).mono ?_
      rintro e w1 ⟨rfl, rfl⟩
      go_wp2_with fail
      refine HT.out.mono ?_
      rintro e w1 ⟨u, pgs', ub', rfl, ht, hi, hf, hs⟩
      have HI := Lib.hid (And.intro (W.out u pgs' ht) (And.intro hi (And.intro hf hs)))
      have hu : (∃ x y, u = .tuple #[.int .i64 x, .bool y]) := by
        rcases ht with ⟨p, j, us, _, _, _, _, _, rfl, _⟩ | ⟨_, ⟨p, _, _, rfl, _⟩ | ⟨_, rfl, _⟩⟩
        · exact ⟨_, _, rfl⟩
        · exact ⟨_, _, rfl⟩
        · exact ⟨_, _, rfl⟩
      obtain ⟨x, y, rfl⟩ := hu
      clear ht hi hf hs
      go_wp2
      go_ret2
      exact ⟨_, pgs', ub', rfl, HI.out.1, HI.out.2.1, HI.out.2.2.1, HI.out.2.2.2⟩

theorem info_state : (Tryz.prog.info? 166).map (fun i => (i.zero, i.size, i.bytes)) = some (some (.agg #[.int .i64 0, .int .i64 0, .slice none 0 0, .bool false]), 4, 48) := by kernel_rfl

theorem madeS (n : Nat) : madeCells (Value.agg #[.int .i64 0, .int .i64 0, .slice none 0 0, .bool false]).cells (n * 4) = (flat4 n fun _ => zero4).toArray := by
  apply Array.ext'
  refine flat4_ext (fun _ => rfl) (by simp [madeCells]) fun i j hi hj => ?_
  have hm : (i * 4 + j) % 4 = j := by omega
  have hlt : i * 4 + j < n * 4 := by omega
  simp only [madeCells, Value.cells, Array.getElem?_toList, Array.getElem?_map, Array.getElem?_range, hlt, if_true, Option.map_some]
  show some (#[Value.int .i64 0, .int .i64 0, .slice none 0 0, .bool false][(i * 4 + j) % 4]!) = _
  rw [hm]
  obtain rfl | rfl | rfl | rfl : j = 0 ∨ j = 1 ∨ j = 2 ∨ j = 3 := by omega
  all_goals rfl

/-- Pages that are made. -/
theorem run_make_state (n : Int) (h0 : 0 ≤ n) (h1 : n ≤ 64) (w : World) :
    (Instr.makeSlice 159 (.int .i64 n) (.int .i64 n)).run Tryz.prog w = .ok (.slice (some ⟨w.heap.size, 0, none⟩) n.toNat n.toNat) (w.alloc (.cells (flat4 n.toNat fun _ => zero4).toArray 166)) := by
  obtain ⟨i, hi, hz, hs, hb⟩ := info_parts info_state
  have h := run_make (P := Tryz.prog) w 159 166 i _ Tryz.underlying159 hi hz .i64 .i64 n n h0 (Int.le_refl _) (by rw [hb]; omega) (by omega)
  rw [hs, madeS] at h
  exact h

set_option maxHeartbeats 4000000 in
theorem mNew_any (f p g : Int) (w : World) :
    Calls Tryz.prog 64 #[.int .i64 f, .int .i64 p, .int .i64 g] w fun e w' => e = .returned (spP (w.heap.size + 1)) ∧
      IsSp w' (w.heap.size + 1) w.heap.size (fun _ => 0) (cutI f 0 1048576) (cutI g 1 256) (List.replicate (cutI p 0 64).toNat .free) (List.replicate (cutI p 0 64).toNat false) ∧ Below w.heap.size w w' := by
  have hF := nearest_any f 0 1048576 w (by omega)
  have hP := nearest_any p 0 64 w (by omega)
  have hG := nearest_any g 1 256 w (by omega)
  have iF := cutI_in (n := f) (l := 0) (m := 1048576) (by omega)
  have iP := cutI_in (n := p) (l := 0) (m := 64) (by omega)
  have iG := cutI_in (n := g) (l := 1) (m := 256) (by omega)
  obtain ⟨F, eF⟩ : ∃ F, cutI f 0 1048576 = F := ⟨_, rfl⟩
  obtain ⟨P, eP⟩ : ∃ P, cutI p 0 64 = P := ⟨_, rfl⟩
  obtain ⟨G, eG⟩ : ∃ G, cutI g 1 256 = G := ⟨_, rfl⟩
  rw [eF] at hF iF ⊢
  rw [eP] at hP iP ⊢
  rw [eG] at hG iG ⊢
  clear eF eP eG
  obtain ⟨N, rfl⟩ : ∃ N : Nat, P = N := ⟨P.toNat, by omega⟩
  have hmk := run_make_state N (by omega) (by omega)
  rw [Int.toNat_natCast] at hmk ⊢
  have HF := Lib.hid hF
  have HP := Lib.hid hP
  have HG := Lib.hid hG
  have no : ∀ (i : Nat) (x : Pg), (List.replicate N Pg.free)[i]? = some x → x = .free := fun i x h => by
    rw [List.getElem?_replicate] at h
    split at h
    · cases h; rfl
    · cases h
  have NO := Lib.hid no
  clear hF hP hG no
  go_enter Tryz.func64, Tryz.ntmps64
  go_wp2_with fail
  refine HF.out.mono ?_
  rintro e w1 ⟨rfl, rfl⟩
  go_wp2_with fail
  refine HG.out.mono ?_
  rintro e w1 ⟨rfl, rfl⟩
  go_wp2_with fail
  refine HP.out.mono ?_
  rintro e w1 ⟨rfl, rfl⟩
  go_wp2
  go_ret
  refine ⟨rfl, ⟨?_, ?_, fun i x hx hf => ?_, fun i j x y hx hy hf => ?_, fun i hi => ?_, (Rel.new F G N).wf, by rw [List.length_replicate, List.length_replicate], iF.1, iF.2, iG.1, iG.2, by rw [List.length_replicate]; omega⟩, ((Below.refl _ _).alloc (Nat.le_refl _) _).alloc (by simp) _⟩
  · rw [List.length_replicate]
    have h := Blk.new (w.alloc (.cells (flat4 N fun _ => zero4).toArray 166)) #[.int .i64 F, .int .i64 G, .slice (some ⟨w.heap.size, 0, none⟩) N N] 161
    have e : (w.alloc (.cells (flat4 N fun _ => zero4).toArray 166)).heap.size = w.heap.size + 1 := by simp
    rw [e] at h
    exact h
  · rw [List.length_replicate]
    have e : flat4 N (stF G (List.replicate N .free) (fun _ => 0) (List.replicate N false)) = flat4 N fun _ => zero4 := flat4_congr fun i hi => by
      rw [stF_at (x := .free) (q := false) (by rw [List.getElem?_replicate, if_pos hi]) (by rw [List.getElem?_replicate, if_pos hi])]
      rfl
    rw [e]
    exact (Blk.new w _ _).alloc _
  · rw [NO.out i x hx] at hf; cases hf
  · rw [NO.out i x hx] at hf; cases hf
  · rw [List.getElem?_replicate] at hi
    split at hi
    · cases hi
    · cases hi

end Go.Proofs.YthmhehehomieiaaGreat

/- A buffer in memory; contracts of the program's row. -/
namespace Go.Proofs.YthmhehehomieiaaGreat
open Go.RowKit

/-- Block b is a buffer with room for M, whose slice (A, n, c) holds xs. -/
structure IsBuf (w : World) (b : Nat) (M : Int) (A : Option Addr) (n c : Nat) (xs : List Int) : Prop where
  blk : Blk w b #[.slice A n c, .int .i64 M] 191
  row : Qu w A n c xs
  m0 : 0 ≤ M
  m1 : M ≤ 1048576
  few : (n : Int) ≤ M

abbrev bfP (b : Nat) : Value := .pointer (some ⟨b, 0, none⟩)

/-- Only the buffer has turned; its slice lies where it lay, or in a new block. -/
structure BufT (b : Nat) (A A' : Option Addr) (w w' : World) : Prop where
  frm : Frm (fun k => k = b ∨ blkOf A = some k) w w'
  at_ : ∀ k, blkOf A' = some k → blkOf A = some k ∨ w.heap.size ≤ k

theorem BufT.of_below {b : Nat} {A : Option Addr} {w w' : World} (h : Below w.heap.size w w') : BufT b A A w w' := ⟨Frm.of_below h, fun _ hk => .inl hk⟩

section
variable {w w' : World} {b : Nat} {M : Int} {A : Option Addr} {n c : Nat} {xs : List Int}
theorem IsBuf.ne (h : IsBuf w b M A n c xs) {k : Nat} (hk : blkOf A = some k) : b ≠ k := by
  rcases h.row.lies with ⟨rfl, _⟩ | ⟨g, off, cs, rfl, hb, _⟩
  · cases hk
  · cases hk
    exact Blk.ne_ h.blk hb (by decide)
theorem IsBuf.lt (h : IsBuf w b M A n c xs) : b < w.heap.size := h.blk.lt
theorem IsBuf.keep (h : IsBuf w b M A n c xs) (f : Below w.heap.size w w') : IsBuf w' b M A n c xs := { h with blk := h.blk.keep f, row := h.row.keep f }
theorem IsBuf.frm {S : Nat → Prop} (h : IsBuf w b M A n c xs) (f : Frm S w w') (hb : ¬ S b) (hs : ∀ k, blkOf A = some k → ¬ S k) : IsBuf w' b M A n c xs := { h with blk := h.blk.frm f hb, row := h.row.frm f hs }
theorem IsBuf.two (h : IsBuf w b M A n c xs) : w.cell? ⟨b, 0, none⟩ = some (.slice A n c) ∧ w.cell? ⟨b, 1, none⟩ = some (.int .i64 M) ∧ (∀ i, w.frozen? ⟨b, i, none⟩ = false) := ⟨h.blk.cell 0, h.blk.cell 1, h.blk.frozen⟩
end

set_option maxHeartbeats 1000000 in
theorem rcount_any (b : Nat) (M : Int) (A : Option Addr) (n c : Nat) (xs : List Int) (w : World) (h : IsBuf w b M A n c xs) :
    Calls Tryz.prog 156 #[bfP b] w fun e w' => e = .returned (.int .i64 n) ∧ w = w' := by
  obtain ⟨c0, c1, cf⟩ := h.two
  clear h c1 cf
  go_enter Tryz.func156, Tryz.ntmps156
  go_wp2
  go_ret
  exact ⟨rfl, rfl⟩

set_option maxHeartbeats 1000000 in
theorem rtake_no (b : Nat) (M : Int) (A : Option Addr) (c : Nat) (w : World) (h : IsBuf w b M A 0 c []) :
    Calls Tryz.prog 177 #[bfP b] w fun e w' => e = .returned (.tuple #[.int .i64 0, .bool false]) ∧ w = w' := by
  obtain ⟨c0, c1, cf⟩ := h.two
  clear h c1 cf
  go_enter Tryz.func177, Tryz.ntmps177
  go_wp2
  go_ret2
  exact ⟨rfl, rfl⟩

/-- A buffer's slice is laid anew. -/
theorem IsBuf.set {w : World} {b : Nat} {M : Int} {A A' : Option Addr} {n c n' c' : Nat} {xs xs' : List Int} (h : IsBuf w b M A n c xs) (q : Qu w A' n' c' xs') (few : (n' : Int) ≤ M) :
    IsBuf (w.setCell ⟨b, 0, none⟩ (.slice A' n' c')) b M A' n' c' xs' :=
  ⟨h.blk.set_ 0 _, q.frm (S := fun k => k = b) (Frm.setCell (S := fun k => k = b) (Frm.refl _ _) (p := ⟨b, 0, none⟩) (fun _ => rfl) _) (fun k hk e => by
    subst e
    rcases q.lies with ⟨rfl, _⟩ | ⟨g, off, cs, rfl, hb, _⟩
    · cases hk
    · cases hk
      exact Blk.ne_ h.blk hb (by decide) rfl), h.m0, h.m1, few⟩

set_option maxHeartbeats 2000000 in
theorem rtake_yes (b : Nat) (M : Int) (A : Option Addr) (n c : Nat) (x : Int) (xs : List Int) (w : World) (h : IsBuf w b M A (n + 1) c (x :: xs)) :
    Calls Tryz.prog 177 #[bfP b] w fun e w' => e = .returned (.tuple #[.int .i64 x, .bool true]) ∧ ∃ A' c', IsBuf w' b M A' n c' xs ∧ BufT b A A' w w' := by
  obtain ⟨g, off, rfl, hg, hx, hf⟩ := h.row.at_ (by omega)
  have x0 := hx 0 x rfl
  rw [Nat.add_zero] at x0
  obtain ⟨c0, c1, cf⟩ := h.two
  have hne : b ≠ g := h.ne rfl
  have few := h.few
  have m1 := h.m1
  have le := h.row.le
  have cm := h.row.max
  unfold maxLen at cm
  by_cases hc : c = 1
  · subst hc
    obtain ⟨q, rfl⟩ := h.row.tail1
    have HB := Lib.hid (h.set (n' := 0) q (by omega))
    clear h q hx hf c1
    go_enter Tryz.func177, Tryz.ntmps177
    go_wp2
    go_ret2
    exact ⟨rfl, _, _, HB.out, (Frm.refl _ _).setCell (fun _ => .inl rfl) _, fun k hk => .inl hk⟩
  · have HB := Lib.hid (h.set (n' := n) (h.row.tail (by omega)) (by omega))
    clear h hx hf c1
    go_enter Tryz.func177, Tryz.ntmps177
    go_wp2
    go_ret2
    exact ⟨rfl, _, _, HB.out, (Frm.refl _ _).setCell (fun _ => .inl rfl) _, fun k hk => .inl hk⟩
end Go.Proofs.YthmhehehomieiaaGreat

/- Contracts of the program's row: put, all. -/
namespace Go.Proofs.YthmhehehomieiaaGreat
open Go.RowKit

set_option maxHeartbeats 2000000 in
theorem rput_no (b : Nat) (M : Int) (A : Option Addr) (n c : Nat) (xs : List Int) (x : Int) (w : World) (h : IsBuf w b M A n c xs) (hn : M ≤ n) :
    Calls Tryz.prog 166 #[bfP b, .int .i64 x] w fun e w' => e = .returned (.bool false) ∧ Below w.heap.size w w' := by
  obtain ⟨c0, c1, cf⟩ := h.two
  have d : decide ((n : Int) ≥ M) = true := decide_eq_true hn
  have d2 : decide (M ≤ (n : Int)) = true := decide_eq_true hn
  clear h
  go_enter Tryz.func166, Tryz.ntmps166
  go_wp2_with fail
  go_big_quiet (fail)
  go_wp2
  go_ret
  exact ⟨rfl, below_drewN _ _⟩

set_option maxHeartbeats 4000000 in
theorem rput_yes (b : Nat) (M : Int) (A : Option Addr) (n c : Nat) (xs : List Int) (x : Int) (w : World) (h : IsBuf w b M A n c xs) (hn : (n : Int) < M) :
    Calls Tryz.prog 166 #[bfP b, .int .i64 x] w fun e w' => e = .returned (.bool true) ∧ ∃ A' c', IsBuf w' b M A' (n + 1) c' (xs ++ [x]) ∧ BufT b A A' w w' := by
  obtain ⟨c0, c1, cf⟩ := h.two
  have d : decide ((n : Int) ≥ M) = false := decide_eq_false (by omega)
  have d2 : decide (M ≤ (n : Int)) = false := decide_eq_false (by omega)
  have few : n ≤ 1048576 := by have := h.m1; omega
  have HH := Lib.hid h
  have m1 := h.m1
  clear h
  go_enter Tryz.func166, Tryz.ntmps166
  go_wp2_with fail
  go_big_quiet (fail)
  generalize hW : w.drewN _ = W1
  have bw : Below w.heap.size w W1 := hW ▸ below_drewN _ _
  have H1 := Lib.hid (HH.out.keep bw)
  have BW := Lib.hid bw
  clear hW bw c0 c1 cf HH
  obtain ⟨c0, c1, cf⟩ := H1.out.two
  have hlt := H1.out.lt
  have H2 := Lib.hid (H1.out.keep ((Below.refl _ _).alloc (Nat.le_refl _) (.cells #[.int .i64 x] 3)))
  have B2 := Lib.hid (BW.out.alloc BW.out.size (.cells #[.int .i64 x] 3))
  have e2 := Lib.hid (show (W1.alloc (.cells #[.int .i64 x] 3)).cell? ⟨W1.heap.size, 0, none⟩ = some (.int .i64 x) from (Blk.new W1 #[.int .i64 x] 3).cell 0)
  clear BW H1 c1
  go_wp2_with (first
    | (at_builtin; (refine wpList_append_qu _ rfl _ _ rfl H2.out.row few x ⟨W1.heap.size, 0, none⟩ 1 rfl rfl e2.out ?_))
    | fail)
  intro A' c' w2 q g
  have hb2 : blkOf A ≠ some b := fun e => H2.out.ne e rfl
  have k2 := H2.out.blk.frm g.frm hb2
  have cf2 : w2.frozen? ⟨b, 0, none⟩ = false := k2.frozen 0
  have ex2 : w2.cell? ⟨b, 0, none⟩ = some (.slice A n c) := k2.cell 0
  have H3 := Lib.hid (show IsBuf (w2.setCell ⟨b, 0, none⟩ (.slice A' (n + 1) c')) b M A' (n + 1) c' (xs ++ [x]) from
    ⟨k2.set_ 0 _, q.frm (S := fun k => k = b) (Frm.setCell (S := fun k => k = b) (Frm.refl _ _) (p := ⟨b, 0, none⟩) (fun _ => rfl) _) (fun k hk e => by
      subst e
      rcases q.lies with ⟨rfl, _⟩ | ⟨g, off, cs, rfl, hb, _⟩
      · cases hk
      · cases hk
        exact Blk.ne_ k2 hb (by decide) rfl), H2.out.m0, m1, by omega⟩)
  have T := Lib.hid (show BufT b A A' w (w2.setCell ⟨b, 0, none⟩ (.slice A' (n + 1) c')) from
    ⟨((Frm.of_below B2.out : Frm (fun k => k = b ∨ blkOf A = some k) _ _).trans g.frm (fun i _ e => .inr e)).setCell (fun _ => .inl rfl) _,
     fun k hk => (g.at_ k hk).imp id fun h => Nat.le_trans B2.out.size h⟩)
  clear k2 q g H2 B2 e2 hb2 cf c0
  go_wp2
  go_ret
  exact ⟨rfl, A', c', H3.out, T.out⟩

end Go.Proofs.YthmhehehomieiaaGreat

/- Contracts of the program's buffer: New, Put, Take, Len, All; of none, too. -/
namespace Go.Proofs.YthmhehehomieiaaGreat
open Go.RowKit

set_option maxHeartbeats 1000000 in
theorem bfNew_any (m : Int) (w : World) :
    Calls Tryz.prog 143 #[.int .i64 m] w fun e w' => e = .returned (bfP w.heap.size) ∧ IsBuf w' w.heap.size (cutI m 0 1048576) none 0 0 [] ∧ Below w.heap.size w w' := by
  have key := Lib.hid (show ∀ K : Int, cutI m 0 1048576 = K → IsBuf (w.alloc (.cells #[.slice none 0 0, .int .i64 K] 191)) w.heap.size (cutI m 0 1048576) none 0 0 [] from by
    rintro _ rfl
    exact ⟨Blk.new _ _ _, Qu.nil _, (cutI_in (by decide)).1, (cutI_in (by decide)).2, (cutI_in (by decide)).1⟩)
  go_enter Tryz.func143, Tryz.ntmps143
  go_wp2
  all_goals
    go_ret
    exact ⟨rfl, key.out _ (by unfold cutI; split <;> (try split) <;> omega), (Below.refl _ _).alloc (Nat.le_refl _) _⟩

section
variable (b : Nat) (M : Int) (A : Option Addr) (n c : Nat) (xs : List Int) (x : Int) (w : World)

set_option maxHeartbeats 1000000 in
theorem bfPut_no (h : IsBuf w b M A n c xs) (hn : M ≤ n) :
    Calls Tryz.prog 148 #[bfP b, .int .i64 x] w fun e w' => e = .returned (.bool false) ∧ Below w.heap.size w w' := by
  have H := Lib.hid (rput_no b M A n c xs x w h hn)
  clear h hn
  go_enter Tryz.func148, Tryz.ntmps148
  go_wp2_with fail
  refine H.out.mono ?_
  rintro e w1 ⟨rfl, b1⟩
  have B := Lib.hid b1
  clear b1
  go_wp2
  go_ret
  exact ⟨rfl, B.out⟩

set_option maxHeartbeats 1000000 in
theorem bfPut_yes (h : IsBuf w b M A n c xs) (hn : (n : Int) < M) :
    Calls Tryz.prog 148 #[bfP b, .int .i64 x] w fun e w' => e = .returned (.bool true) ∧ ∃ A' c', IsBuf w' b M A' (n + 1) c' (xs ++ [x]) ∧ BufT b A A' w w' := by
  have H := Lib.hid (rput_yes b M A n c xs x w h hn)
  clear h hn
  go_enter Tryz.func148, Tryz.ntmps148
  go_wp2_with fail
  refine H.out.mono ?_
  rintro e w1 ⟨rfl, b1⟩
  have B := Lib.hid b1
  clear b1
  go_wp2
  go_ret
  exact ⟨rfl, B.out⟩

set_option maxHeartbeats 1000000 in
theorem bfPut_nil : Calls Tryz.prog 148 #[.pointer none, .int .i64 x] w fun e w' => e = .returned (.bool false) ∧ w = w' := by
  go_enter Tryz.func148, Tryz.ntmps148
  go_wp2
  go_ret
  exact ⟨rfl, rfl⟩

set_option maxHeartbeats 1000000 in
theorem bfTake_no (h : IsBuf w b M A 0 c []) :
    Calls Tryz.prog 173 #[bfP b] w fun e w' => e = .returned (.tuple #[.int .i64 0, .bool false]) ∧ w = w' := by
  have H := Lib.hid (rtake_no b M A c w h)
  clear h
  go_enter Tryz.func173, Tryz.ntmps173
  go_wp2_with fail
  refine H.out.mono ?_
  rintro e w1 ⟨rfl, rfl⟩
  go_wp2
  go_ret2
  exact ⟨rfl, rfl⟩

set_option maxHeartbeats 1000000 in
theorem bfTake_yes (h : IsBuf w b M A (n + 1) c (x :: xs)) :
    Calls Tryz.prog 173 #[bfP b] w fun e w' => e = .returned (.tuple #[.int .i64 x, .bool true]) ∧ ∃ A' c', IsBuf w' b M A' n c' xs ∧ BufT b A A' w w' := by
  have H := Lib.hid (rtake_yes b M A n c x xs w h)
  clear h
  go_enter Tryz.func173, Tryz.ntmps173
  go_wp2_with fail
  refine H.out.mono ?_
  rintro e w1 ⟨rfl, b1⟩
  have B := Lib.hid b1
  clear b1
  go_wp2
  go_ret2
  exact ⟨rfl, B.out⟩

set_option maxHeartbeats 1000000 in
theorem bfTake_nil : Calls Tryz.prog 173 #[.pointer none] w fun e w' => e = .returned (.tuple #[.int .i64 0, .bool false]) ∧ w = w' := by
  go_enter Tryz.func173, Tryz.ntmps173
  go_wp2
  go_ret2
  exact ⟨rfl, rfl⟩

set_option maxHeartbeats 1000000 in
theorem bfLen_any (h : IsBuf w b M A n c xs) :
    Calls Tryz.prog 128 #[bfP b] w fun e w' => e = .returned (.int .i64 n) ∧ w = w' := by
  have H := Lib.hid (rcount_any b M A n c xs w h)
  clear h
  go_enter Tryz.func128, Tryz.ntmps128
  go_wp2_with fail
  refine H.out.mono ?_
  rintro e w1 ⟨rfl, rfl⟩
  go_wp2
  go_ret
  exact ⟨rfl, rfl⟩

set_option maxHeartbeats 1000000 in
theorem bfLen_nil : Calls Tryz.prog 128 #[.pointer none] w fun e w' => e = .returned (.int .i64 0) ∧ w = w' := by
  go_enter Tryz.func128, Tryz.ntmps128
  go_wp2
  go_ret
  exact ⟨rfl, rfl⟩


end
end Go.Proofs.YthmhehehomieiaaGreat

/- What has turned where an object holds blocks of its own; of no program's own. -/
namespace Go.Proofs.YthmhehehomieiaaGreat
open Go.RowKit

/-- Of what was there only blocks of S have turned; what is held now was of S, or is new. -/
structure Mv (S S' : Nat → Prop) (w w' : World) : Prop where
  frm : Frm S w w'
  at_ : ∀ k, S' k → S k ∨ w.heap.size ≤ k

section
variable {S S' S'' : Nat → Prop} {w w' w'' : World}
theorem Mv.of_below (h : Below w.heap.size w w') : Mv S S w w' := ⟨Frm.of_below h, fun _ hk => .inl hk⟩
theorem Mv.trans (h : Mv S S' w w') (k : Mv S' S'' w' w'') : Mv S S'' w w'' :=
  ⟨h.frm.trans k.frm fun i hi e => (h.at_ i e).resolve_right (by omega), fun i e => (k.at_ i e).elim (h.at_ i) fun h2 => .inr (Nat.le_trans h.frm.size h2)⟩
theorem Mv.pre (f : Below w.heap.size w w') (k : Mv S S' w' w'') : Mv S S' w w'' := (Mv.of_below f).trans k
theorem Mv.post (h : Mv S S' w w') (f : Below w'.heap.size w' w'') : Mv S S' w w'' := h.trans (Mv.of_below f)
end
end Go.Proofs.YthmhehehomieiaaGreat

/- Marks in memory; contracts of the program's nearest, New, all, has, find. -/
namespace Go.Proofs.YthmhehehomieiaaGreat
open Go.RowKit

/-- Block b is marks for C words each of W, from F on; they lie in block mb. -/
structure IsTb (w : World) (b mb : Nat) (F W C : Int) (ms : List Bool) : Prop where
  blk : Blk w b #[.int .i64 F, .int .i64 W, .int .i64 C, .slice (some ⟨mb, 0, none⟩) ms.length ms.length] 195
  row : Blk w mb (ms.map Value.bool).toArray 4
  f0 : 0 ≤ F
  f1 : F ≤ 1048576
  w0 : 0 ≤ W
  w1 : W ≤ 1048576
  c0 : 1 ≤ C
  c1 : C ≤ 1048576
  len : (ms.length : Int) = (W + C - 1) / C

abbrev tbP (b : Nat) : Value := .pointer (some ⟨b, 0, none⟩)

/-- How many marks there are: no more than words, enough for all. -/
theorem marks_in {W C : Int} (w0 : 0 ≤ W) (w1 : W ≤ 1048576) (c0 : 1 ≤ C) :
    0 ≤ (W + C - 1) / C ∧ (W + C - 1) / C ≤ 1048576 ∧ W ≤ (W + C - 1) / C * C ∧ (W + C - 1) / C * C < W + C := by
  have e := Int.mul_ediv_add_emod (W + C - 1) C
  have m0 : 0 ≤ (W + C - 1) % C := Int.emod_nonneg _ (by omega)
  have m1 := Int.emod_lt_of_pos (W + C - 1) (show 0 < C by omega)
  have q0 : 0 ≤ (W + C - 1) / C := Int.ediv_nonneg (by omega) (by omega)
  rw [Int.mul_comm] at e
  have q1 : (W + C - 1) / C ≤ W := by
    by_cases h : W = 0
    · subst h
      have : (0 + C - 1) / C = 0 := Int.ediv_eq_zero_of_lt (by omega) (by omega)
      omega
    · have := Int.ediv_le_of_le_mul (a := W + C - 1) (b := W) (c := C) (by omega) (by
        have h2 : (W - 1) * 1 ≤ (W - 1) * C := Int.mul_le_mul_of_nonneg_left (by omega) (by omega)
        have h3 : W * C = (W - 1) * C + C := by rw [Int.sub_mul, Int.one_mul]; omega
        omega)
      omega
  generalize (W + C - 1) / C = q at *
  generalize q * C = qc at *
  omega

section
variable {w w' : World} {b mb : Nat} {F W C : Int} {ms : List Bool}
theorem IsTb.lt (h : IsTb w b mb F W C ms) : b < w.heap.size := h.blk.lt
theorem IsTb.lt2 (h : IsTb w b mb F W C ms) : mb < w.heap.size := h.row.lt
theorem IsTb.ne (h : IsTb w b mb F W C ms) : b ≠ mb := Blk.ne_ h.blk h.row (by decide)
theorem IsTb.keep (h : IsTb w b mb F W C ms) (f : Below w.heap.size w w') : IsTb w' b mb F W C ms := { h with blk := h.blk.keep f, row := h.row.keep f }
theorem IsTb.alloc (h : IsTb w b mb F W C ms) (o : Obj) : IsTb (w.alloc o) b mb F W C ms := { h with blk := h.blk.alloc o, row := h.row.alloc o }
theorem IsTb.set (h : IsTb w b mb F W C ms) (i : Nat) (x : Bool) : IsTb (w.setCell ⟨mb, i, none⟩ (.bool x)) b mb F W C (ms.set i x) :=
  { h with blk := by rw [List.length_set]; exact h.blk.far h.ne _
           row := h.row.setBool i x
           len := by rw [List.length_set]; exact h.len }
theorem IsTb.far (h : IsTb w b mb F W C ms) {p : Addr} (hb : b ≠ p.block) (hm : mb ≠ p.block) (v : Value) : IsTb (w.setCell p v) b mb F W C ms := { h with blk := h.blk.far hb v, row := h.row.far hm v }
theorem IsTb.few (h : IsTb w b mb F W C ms) : ms.length ≤ 1048576 := by have := marks_in h.w0 h.w1 h.c0; have := h.len; omega
theorem IsTb.four (h : IsTb w b mb F W C ms) :
    w.cell? ⟨b, 0, none⟩ = some (.int .i64 F) ∧ w.cell? ⟨b, 1, none⟩ = some (.int .i64 W) ∧ w.cell? ⟨b, 2, none⟩ = some (.int .i64 C) ∧ w.cell? ⟨b, 3, none⟩ = some (.slice (some ⟨mb, 0, none⟩) ms.length ms.length) ∧
    (∀ i, w.frozen? ⟨b, i, none⟩ = false) := ⟨h.blk.cell 0, h.blk.cell 1, h.blk.cell 2, h.blk.cell 3, h.blk.frozen⟩
/-- A place's mark. -/
theorem IsTb.at_ (h : IsTb w b mb F W C ms) {x : Int} (x0 : F ≤ x) (x1 : x < F + W) : 0 ≤ (x - F) / C ∧ (x - F) / C < ms.length := by
  have k := marks_in h.w0 h.w1 h.c0
  have c0 := h.c0
  refine ⟨Int.ediv_nonneg (by omega) (by omega), ?_⟩
  rw [h.len]
  exact Int.ediv_lt_of_lt_mul (by omega) (by omega)
end

set_option maxHeartbeats 1000000 in
theorem cnearest_any (n l : Int) (w : World) (hl : l ≤ 1048576) :
    Calls Tryz.prog 161 #[.int .i64 n, .int .i64 l] w fun e w' => e = .returned (.int .i64 (cutI n l 1048576)) ∧ w = w' := by
  by_cases h0 : n < l
  · have E := Lib.hid (show cutI n l 1048576 = l from if_pos h0)
    go_enter Tryz.func161, Tryz.ntmps161
    go_wp2
    go_ret
    refine ⟨?_, rfl⟩
    rw [E.out]
    congr 2
    repeat' split
    all_goals omega
  · by_cases h1 : 1048576 < n
    · have E := Lib.hid (show cutI n l 1048576 = 1048576 from by rw [cutI, if_neg h0, if_pos h1])
      go_enter Tryz.func161, Tryz.ntmps161
      go_wp2
      go_ret
      refine ⟨?_, rfl⟩
      rw [E.out]
      congr 2
      repeat' split
      all_goals omega
    · have E := Lib.hid (show cutI n l 1048576 = n from by rw [cutI, if_neg h0, if_neg h1])
      go_enter Tryz.func161, Tryz.ntmps161
      go_wp2
      go_ret
      refine ⟨?_, rfl⟩
      rw [E.out]
      congr 2
      repeat' split
      all_goals omega

set_option maxHeartbeats 1000000 in
theorem call_any (b mb : Nat) (F W C : Int) (ms : List Bool) (w : World) (h : IsTb w b mb F W C ms) :
    Calls Tryz.prog 157 #[tbP b] w fun e w' => e = .returned (.slice (some ⟨mb, 0, none⟩) ms.length ms.length) ∧ w = w' := by
  obtain ⟨c0, c1, c2, c3, cf⟩ := h.four
  clear c0 c1 c2 h
  go_enter Tryz.func157, Tryz.ntmps157
  go_wp2
  go_ret
  exact ⟨rfl, rfl⟩

set_option maxHeartbeats 1000000 in
theorem call_nil (w : World) : Calls Tryz.prog 157 #[.pointer none] w fun e w' => e = .returned (.slice none 0 0) ∧ w = w' := by
  go_enter Tryz.func157, Tryz.ntmps157
  go_wp2
  go_ret
  exact ⟨rfl, rfl⟩

def hasI (N : Nat) (n : Int) : Bool := decide (0 ≤ n) && decide (n < N)

theorem hasI_yes {N : Nat} {n : Int} (h0 : 0 ≤ n) (h1 : n < N) : hasI N n = true := by simp [hasI, h0, h1]
theorem hasI_no {N : Nat} {n : Int} (h : n < 0 ∨ N ≤ n) : hasI N n = false := by
  rw [hasI, Bool.and_eq_false_iff, decide_eq_false_iff_not, decide_eq_false_iff_not]; omega

set_option maxHeartbeats 1000000 in
theorem chas_any (b mb : Nat) (F W C : Int) (ms : List Bool) (n : Int) (w : World) (h : IsTb w b mb F W C ms) :
    Calls Tryz.prog 162 #[tbP b, .int .i64 n] w fun e w' => e = .returned (.bool (hasI ms.length n)) ∧ w = w' := by
  have HA := Lib.hid (call_any b mb F W C ms w h)
  clear h
  generalize ms.length = N at HA ⊢
  by_cases h0 : 0 ≤ n
  · have E := Lib.hid (show hasI N n = decide (n < (N : Int)) from by rw [hasI, decide_eq_true h0, Bool.true_and])
    go_enter Tryz.func162, Tryz.ntmps162
    go_wp2_with fail
    refine HA.out.mono ?_
    rintro e w1 ⟨rfl, rfl⟩
    go_wp2
    go_ret
    exact ⟨by rw [E.out]; rfl, rfl⟩
  · have E := Lib.hid (show hasI N n = false from by rw [hasI, decide_eq_false h0, Bool.false_and])
    go_enter Tryz.func162, Tryz.ntmps162
    go_wp2
    go_ret
    exact ⟨by rw [E.out]; rfl, rfl⟩

set_option maxHeartbeats 1000000 in
theorem chas_nil (n : Int) (w : World) : Calls Tryz.prog 162 #[.pointer none, .int .i64 n] w fun e w' => e = .returned (.bool false) ∧ w = w' := by
  by_cases h0 : 0 ≤ n
  · have h1 : decide (n < 0) = false := decide_eq_false (by omega)
    go_enter Tryz.func162, Tryz.ntmps162
    go_wp2_with fail
    refine (call_nil w).mono ?_
    rintro e w1 ⟨rfl, rfl⟩
    go_wp2
    go_ret
    exact ⟨rfl, rfl⟩
  · go_enter Tryz.func162, Tryz.ntmps162
    go_wp2
    go_ret
    exact ⟨rfl, rfl⟩

set_option maxHeartbeats 2000000 in
theorem cfind_yes (b mb : Nat) (F W C : Int) (ms : List Bool) (x : Int) (j : Nat) (w : World) (h : IsTb w b mb F W C ms) (x0 : F ≤ x) (x1 : x < F + W) (hj : (x - F) / C = j) :
    Calls Tryz.prog 167 #[tbP b, .int .i64 x] w fun e w' => e = .returned (.tuple #[.int .i64 j, .bool true]) ∧ Below w.heap.size w w' := by
  obtain ⟨c0, c1, c2, c3, cf⟩ := h.four
  have f0 := h.f0
  have f1 := h.f1
  have w1 := h.w1
  have k0 := h.c0
  have at0 := h.at_ x0 x1
  have few := h.few
  have hs : IntKind.i64.wrap (x - F) = x - F := IntWalk.i64_in _ (by omega)
  have hd : (x - F).tdiv C = j := by rw [← hj]; exact Int.tdiv_eq_ediv_of_nonneg (by omega)
  rw [hj] at at0
  have hw : IntKind.i64.wrap (j : Int) = j := IntWalk.i64_in _ (by omega)
  clear hj
  have d0 : decide (x < F) = false := decide_eq_false (by omega)
  have d1 : decide (x - F ≥ W) = false := decide_eq_false (by omega)
  have d2 : decide (W ≤ x - F) = false := decide_eq_false (by omega)
  clear h c3
  go_enter Tryz.func167, Tryz.ntmps167
  go_wp2_with fail
  go_big_quiet (fail)
  go_wp2_with fail
  go_big_quiet (fail)
  go_wp2
  go_ret2
  exact ⟨rfl, below_trans (below_drewN _ _) (below_drewN _ _)⟩

set_option maxHeartbeats 2000000 in
theorem cfind_no (b mb : Nat) (F W C : Int) (ms : List Bool) (x : Int) (w : World) (h : IsTb w b mb F W C ms) (hx : x < F ∨ F + W ≤ x) (hi : x ≤ 9223372036854775807) :
    Calls Tryz.prog 167 #[tbP b, .int .i64 x] w fun e w' => e = .returned (.tuple #[.int .i64 0, .bool false]) ∧ Below w.heap.size w w' := by
  obtain ⟨c0, c1, c2, c3, cf⟩ := h.four
  have f0 := h.f0
  have f1 := h.f1
  have w0 := h.w0
  have w1 := h.w1
  clear h c3 c2
  by_cases x0 : x < F
  · have d0 : decide (x < F) = true := decide_eq_true x0
    clear hx
    go_enter Tryz.func167, Tryz.ntmps167
    go_wp2_with fail
    go_big_quiet (fail)
    go_wp2
    go_ret2
    exact ⟨rfl, below_drewN _ _⟩
  · have x1 : F + W ≤ x := by omega
    have hs : IntKind.i64.wrap (x - F) = x - F := IntWalk.i64_in _ (by omega)
    have d0 : decide (x < F) = false := decide_eq_false x0
    have d1 : decide (x - F ≥ W) = true := decide_eq_true (by omega)
    have d2 : decide (W ≤ x - F) = true := decide_eq_true (by omega)
    clear hx
    go_enter Tryz.func167, Tryz.ntmps167
    go_wp2_with fail
    go_big_quiet (fail)
    go_wp2
    go_ret2
    exact ⟨rfl, below_drewN _ _⟩

set_option maxHeartbeats 2000000 in
theorem cfind_nil (x : Int) (w : World) :
    Calls Tryz.prog 167 #[.pointer none, .int .i64 x] w fun e w' => e = .returned (.tuple #[.int .i64 0, .bool false]) ∧ Below w.heap.size w w' := by
  go_enter Tryz.func167, Tryz.ntmps167
  go_wp2_with fail
  go_big_quiet (fail)
  go_wp2
  go_ret2
  exact ⟨rfl, below_drewN _ _⟩

set_option maxHeartbeats 4000000 in
theorem cNew_any (f n c : Int) (w : World) :
    Calls Tryz.prog 140 #[.int .i64 f, .int .i64 n, .int .i64 c] w fun e w' => ∃ b mb, e = .returned (tbP b) ∧ w.heap.size ≤ b ∧ w.heap.size ≤ mb ∧
      (∃ N : Nat, (N : Int) = (cutI n 0 1048576 + cutI c 1 1048576 - 1) / cutI c 1 1048576 ∧ IsTb w' b mb (cutI f 0 1048576) (cutI n 0 1048576) (cutI c 1 1048576) (List.replicate N false)) ∧ Below w.heap.size w w' := by
  have hF : ∀ v, _ := fun v => cnearest_any f 0 v (by omega)
  have hN := cnearest_any n 0 w (by omega)
  have hC := cnearest_any c 1 w (by omega)
  have iF := cutI_in (n := f) (l := 0) (m := 1048576) (by omega)
  have iN := cutI_in (n := n) (l := 0) (m := 1048576) (by omega)
  have iC := cutI_in (n := c) (l := 1) (m := 1048576) (by omega)
  obtain ⟨F, eF⟩ : ∃ F, cutI f 0 1048576 = F := ⟨_, rfl⟩
  obtain ⟨W, eW⟩ : ∃ W, cutI n 0 1048576 = W := ⟨_, rfl⟩
  obtain ⟨C, eC⟩ : ∃ C, cutI c 1 1048576 = C := ⟨_, rfl⟩
  rw [eF] at hF iF ⊢
  rw [eW] at hN iN ⊢
  rw [eC] at hC iC ⊢
  have HF := Lib.hid hF
  have HN := Lib.hid hN
  have HC := Lib.hid hC
  obtain ⟨f0, f1⟩ := iF
  obtain ⟨n0, n1⟩ := iN
  obtain ⟨c0, c1⟩ := iC
  clear hF hN hC eF eW eC
  have mi := marks_in n0 n1 c0
  have hd : (W + C - 1).tdiv C = (W + C - 1) / C := Int.tdiv_eq_ediv_of_nonneg (by omega)
  obtain ⟨Q, hQ⟩ : ∃ Q, (W + C - 1) / C = Q := ⟨_, rfl⟩
  rw [hQ] at mi hd ⊢
  obtain ⟨q0, q1, q2, q3⟩ := mi
  have HQ := Lib.hid hQ
  clear hQ q2 q3
  have hmk := run_make_bool Q q0 (by omega)
  have s1 : IntKind.i64.wrap (W + C) = W + C := IntWalk.i64_in _ (by omega)
  have s2 : IntKind.i64.wrap (W + C - 1) = W + C - 1 := IntWalk.i64_in _ (by omega)
  have s3 : IntKind.i64.wrap Q = Q := IntWalk.i64_in _ (by omega)
  have cz : ¬ C = 0 := by omega
  have cz2 : (C == 0) = false := by simp; omega
  go_enter Tryz.func140, Tryz.ntmps140
  go_wp2_with fail
  refine HN.out.mono ?_
  rintro e w1 ⟨rfl, rfl⟩
  go_wp2_with fail
  refine HC.out.mono ?_
  rintro e w1 ⟨rfl, rfl⟩
  go_wp2_with fail
  go_region_held3 (fun _ => True) (exact trivial)
    ((go_at_call 161; refine (HF.out _).mono ?_; rintro e v1 ⟨rfl, rfl⟩))
  all_goals
    go_wp2
    go_ret
    refine ⟨w.heap.size + 1, w.heap.size, rfl, by omega, Nat.le_refl _, ⟨Q.toNat, by omega, ⟨?_, ?_, f0, f1, n0, n1, c0, c1, ?_⟩⟩, (((Below.refl _ _).alloc (Nat.le_refl _) _).alloc (by simp) _).drew⟩
    · rw [List.length_replicate]
      have h := Blk.new (w.alloc (.cells (Array.replicate Q.toNat (Value.bool false)) 4)) #[.int .i64 F, .int .i64 W, .int .i64 C, .slice (some ⟨w.heap.size, 0, none⟩) Q.toNat Q.toNat] 195
      simpa using h.drew
    · have h := ((Blk.new w (Array.replicate Q.toNat (Value.bool false)) 4).alloc (.cells #[.int .i64 F, .int .i64 W, .int .i64 C, .slice (some ⟨w.heap.size, 0, none⟩) Q.toNat Q.toNat] 195)).drew
      simpa using h
    · rw [List.length_replicate, HQ.out]; omega
end Go.Proofs.YthmhehehomieiaaGreat

/- Contracts of the program's Mark, Marked, Clear, First, Part, Count. -/
namespace Go.Proofs.YthmhehehomieiaaGreat
open Go.RowKit

/-- Of what was there only the marks have turned: they are ms now. -/
structure Tn (b mb : Nat) (F W C : Int) (ms : List Bool) (w w' : World) : Prop where
  is : IsTb w' b mb F W C ms
  frm : Frm (· = mb) w w'

section
variable {w w' w'' : World} {b mb : Nat} {F W C : Int} {ms ks : List Bool}
theorem Tn.pre (f : Below w.heap.size w w') (k : Tn b mb F W C ms w' w'') : Tn b mb F W C ms w w'' := ⟨k.is, (Frm.of_below f).trans k.frm fun _ _ e => e⟩
theorem Tn.of_set {w1 : World} (h : IsTb w1 b mb F W C ms) (f : Below w.heap.size w w1) (i : Nat) (x : Bool) : Tn b mb F W C (ms.set i x) w (w1.setCell ⟨mb, i, none⟩ (.bool x)) :=
  ⟨h.set i x, (Frm.of_below (S := fun k => k = mb) f).setCell (p := ⟨mb, i, none⟩) (fun _ => rfl) _⟩
theorem Tn.keep {v : World} (k : Tn b mb F W C ms w w') (f : Below w'.heap.size w' v) : Tn b mb F W C ms w v := ⟨k.is.keep f, k.frm.trans (S' := fun _ => False) (Frm.of_below f) fun _ _ e => e.elim⟩
end

section
variable (b mb : Nat) (F W C : Int) (ms : List Bool) (w : World)

set_option maxHeartbeats 2000000 in
theorem cMark_yes (x : Int) (j : Nat) (h : IsTb w b mb F W C ms) (x0 : F ≤ x) (x1 : x < F + W) (hj : (x - F) / C = j) :
    Calls Tryz.prog 149 #[tbP b, .int .i64 x] w fun e w' => e = .returned (.bool true) ∧ Tn b mb F W C (ms.set j true) w w' := by
  have HF := Lib.hid (cfind_yes b mb F W C ms x j w h x0 x1 hj)
  have at0 := h.at_ x0 x1
  rw [hj] at at0
  have HH := Lib.hid h
  obtain ⟨_, at1⟩ := at0
  have few := h.few
  clear h hj
  go_enter Tryz.func149, Tryz.ntmps149
  go_wp2_with fail
  refine HF.out.mono ?_
  rintro e w1 ⟨rfl, b1⟩
  have hi := HH.out.keep b1
  obtain ⟨c0, c1, c2, c3, cf⟩ := hi.four
  have cm := hi.row.bools (i := j) (x := ms[j]'(by omega)) (List.getElem?_eq_getElem _)
  have cfm := hi.row.frozen
  have HI := Lib.hid hi
  have HB := Lib.hid b1
  clear hi c0 c1 c2 b1
  go_wp2
  go_ret
  exact ⟨rfl, Tn.of_set HI.out HB.out _ _⟩

set_option maxHeartbeats 2000000 in
theorem cMark_no (x : Int) (h : IsTb w b mb F W C ms) (hx : x < F ∨ F + W ≤ x) (hi : x ≤ 9223372036854775807) :
    Calls Tryz.prog 149 #[tbP b, .int .i64 x] w fun e w' => e = .returned (.bool false) ∧ Below w.heap.size w w' := by
  have HF := Lib.hid (cfind_no b mb F W C ms x w h hx hi)
  clear h hx hi
  go_enter Tryz.func149, Tryz.ntmps149
  go_wp2_with fail
  refine HF.out.mono ?_
  rintro e w1 ⟨rfl, b1⟩
  go_wp2
  go_ret
  exact ⟨rfl, b1⟩

set_option maxHeartbeats 2000000 in
theorem cMark_nil (x : Int) :
    Calls Tryz.prog 149 #[.pointer none, .int .i64 x] w fun e w' => e = .returned (.bool false) ∧ Below w.heap.size w w' := by
  go_enter Tryz.func149, Tryz.ntmps149
  go_wp2_with fail
  refine (cfind_nil x w).mono ?_
  rintro e w1 ⟨rfl, b1⟩
  go_wp2
  go_ret
  exact ⟨rfl, b1⟩




set_option maxHeartbeats 2000000 in
theorem cClear_yes (j : Nat) (v : Bool) (h : IsTb w b mb F W C ms) (hv : ms[j]? = some v) :
    Calls Tryz.prog 175 #[tbP b, .int .i64 j] w fun e w' => e = .returned (.bool v) ∧ Tn b mb F W C (ms.set j false) w w' := by
  have at1 : (j : Int) < ms.length := by have := (List.getElem?_eq_some_iff.1 hv).1; omega
  have HF := chas_any b mb F W C ms j w h
  rw [hasI_yes (by omega) at1] at HF
  have HF := Lib.hid HF
  obtain ⟨c0, c1, c2, c3, cf⟩ := h.four
  have cm := h.row.bools hv
  have cfm := h.row.frozen
  have HH := Lib.hid h
  have ne := h.ne
  have few := h.few
  clear h hv c0 c1 c2
  go_enter Tryz.func175, Tryz.ntmps175
  go_wp2_with fail
  refine HF.out.mono ?_
  rintro e w1 ⟨rfl, rfl⟩
  go_wp2
  go_ret
  exact ⟨rfl, Tn.of_set HH.out (Below.refl _ _) _ _⟩

set_option maxHeartbeats 2000000 in
theorem cClear_no (n : Int) (h : IsTb w b mb F W C ms) (hn : n < 0 ∨ ms.length ≤ n) :
    Calls Tryz.prog 175 #[tbP b, .int .i64 n] w fun e w' => e = .returned (.bool false) ∧ w = w' := by
  have HF := chas_any b mb F W C ms n w h
  rw [hasI_no hn] at HF
  have HF := Lib.hid HF
  clear h hn
  go_enter Tryz.func175, Tryz.ntmps175
  go_wp2_with fail
  refine HF.out.mono ?_
  rintro e w1 ⟨rfl, rfl⟩
  go_wp2
  go_ret
  exact ⟨rfl, rfl⟩

set_option maxHeartbeats 2000000 in
theorem cClear_nil (n : Int) : Calls Tryz.prog 175 #[.pointer none, .int .i64 n] w fun e w' => e = .returned (.bool false) ∧ w = w' := by
  go_enter Tryz.func175, Tryz.ntmps175
  go_wp2_with fail
  refine (chas_nil n w).mono ?_
  rintro e w1 ⟨rfl, rfl⟩
  go_wp2
  go_ret
  exact ⟨rfl, rfl⟩

/-- The first mark from n on that is set. -/
def FirstA (ms : List Bool) (n : Int) (r : Int) (ok : Bool) : Prop :=
  (∃ j : Nat, r = j ∧ ok = true ∧ n ≤ j ∧ ms[j]? = some true ∧ ∀ i : Nat, n ≤ i → i < j → ms[i]? = some false) ∨ (r = 0 ∧ ok = false ∧ ∀ i : Nat, n ≤ i → ms[i]? ≠ some true)

theorem FirstA.one {ms : List Bool} {n r r' : Int} {ok ok' : Bool} (h : FirstA ms n r ok) (k : FirstA ms n r' ok') : r = r' ∧ ok = ok' := by
  rcases h with ⟨j, rfl, rfl, a, b, c⟩ | ⟨rfl, rfl, c⟩
  · rcases k with ⟨j', rfl, rfl, a', b', c'⟩ | ⟨rfl, rfl, c'⟩
    · rcases Nat.lt_trichotomy j j' with l | l | l
      · have := c' j a l; rw [b] at this; cases this
      · exact ⟨by rw [l], rfl⟩
      · have := c j' a' l; rw [b'] at this; cases this
    · exact absurd b (c' j a)
  · rcases k with ⟨j', rfl, rfl, a', b', c'⟩ | ⟨rfl, rfl, c'⟩
    · exact absurd b' (c j' a')
    · exact ⟨rfl, rfl⟩

set_option maxHeartbeats 4000000 in
theorem cFirst_any (n : Int) (h : IsTb w b mb F W C ms) (hn : n ≤ 9223372036854775807) :
    Calls Tryz.prog 174 #[tbP b, .int .i64 n] w fun e w' => ∃ r ok, e = .returned (.tuple #[.int .i64 r, .bool ok]) ∧ FirstA ms n r ok ∧ w = w' := by
  obtain ⟨k, hk, hk0, hk1⟩ : ∃ k : Nat, (if n ≤ 0 then 0 else n) = (k : Int) ∧ (n ≤ k) ∧ ∀ i : Nat, n ≤ i → k ≤ i := ⟨n.toNat, by split <;> omega, by omega, fun i hi => by omega⟩
  have hk2 : (if n < 0 then 0 else n) = (k : Int) := by rw [← hk]; split <;> split <;> omega
  have hk3 : (if 0 < n then n else 0) = (k : Int) := by rw [← hk]; split <;> split <;> omega
  have hk4 : (if 0 ≤ n then n else 0) = (k : Int) := by rw [← hk]; split <;> split <;> omega
  have hb : (k : Int) ≤ 9223372036854775807 := by omega
  have few := h.few
  have HH := Lib.hid h
  have HK := Lib.hid hk0
  have HL := Lib.hid hk1
  obtain ⟨c0, c1, c2, c3, cf⟩ := h.four
  clear h c0 c1 c2 hk0 hk1
  go_enter Tryz.func174, Tryz.ntmps174
  go_wp2_with fail
  go_loopw [6] (fun s wr => ∃ j : Nat, k ≤ j ∧ (j : Int) ≤ 9223372036854775807 ∧ s = .int .i64 j ∧ Hid (∀ i : Nat, k ≤ i → i < j → ms[i]? = some false) ∧ w = wr) (fun s _ => ms.length - (intOf s).toNat)
  case atStart => exact ⟨k, Nat.le_refl _, hb, rfl, Lib.hid (fun i h1 h2 => by omega), rfl⟩
  case round =>
    obtain ⟨j, kj, hj, rfl, HT, rfl⟩ := hrel
    have HF := chas_any b mb F W C ms j w HH.out
    by_cases hlt : j < ms.length
    · rw [hasI_yes (by omega) (by omega)] at HF
      have HF := Lib.hid HF
      obtain ⟨x, hx⟩ : ∃ x, ms[j]? = some x := ⟨_, List.getElem?_eq_getElem hlt⟩
      have cm := HH.out.row.bools hx
      have HX := Lib.hid hx
      clear hx
      cases x
      · have N1 := Lib.hid (show ∀ i : Nat, k ≤ i → i < j + 1 → ms[i]? = some false from fun i h1 h2 => by
          by_cases e : i = j
          · subst e; exact HX.out
          · exact HT.out i h1 (by omega))
        go_wp2_with fail
        refine HF.out.mono ?_
        rintro e w1 ⟨rfl, rfl⟩
        go_wp2
        go_roundw
        case rel => exact ⟨j + 1, by omega, by omega, by go_num, N1, by trivial⟩
        case measure => simp [intOf]; omega
      · go_wp2_with fail
        refine HF.out.mono ?_
        rintro e w1 ⟨rfl, rfl⟩
        go_wp2
        go_ret2
        exact ⟨_, _, rfl, Or.inl ⟨j, rfl, rfl, by have := HK.out; omega, HX.out, fun i h1 h2 => HT.out i (HL.out i h1) h2⟩, rfl⟩
    · rw [hasI_no (by omega)] at HF
      have HF := Lib.hid HF
      go_wp2_with fail
      refine HF.out.mono ?_
      rintro e w1 ⟨rfl, rfl⟩
      go_wp2
      go_ret2
      refine ⟨_, _, rfl, Or.inr ⟨rfl, rfl, fun i h1 h2 => ?_⟩, rfl⟩
      have h3 := (List.getElem?_eq_some_iff.1 h2).1
      have h4 := HT.out i (HL.out i h1) (by omega)
      rw [h2] at h4
      cases h4

set_option maxHeartbeats 4000000 in
theorem cFirst_nil (n : Int) : Calls Tryz.prog 174 #[.pointer none, .int .i64 n] w fun e w' => e = .returned (.tuple #[.int .i64 0, .bool false]) ∧ w = w' := by
  have HN := Lib.hid (fun k => chas_nil k w)
  obtain ⟨k, hk⟩ : ∃ k : Int, (if n ≤ 0 then 0 else n) = k := ⟨_, rfl⟩
  have hk2 : (if n < 0 then 0 else n) = k := by rw [← hk]; split <;> split <;> omega
  have hk3 : (if 0 < n then n else 0) = k := by rw [← hk]; split <;> split <;> omega
  have hk4 : (if 0 ≤ n then n else 0) = k := by rw [← hk]; split <;> split <;> omega
  go_enter Tryz.func174, Tryz.ntmps174
  go_wp2_with fail
  go_loopw [6] (fun s wr => (∃ k, s = .int .i64 k) ∧ w = wr) (fun s _ => 0)
  case atStart => exact ⟨⟨_, rfl⟩, rfl⟩
  case round =>
    obtain ⟨⟨k, rfl⟩, rfl⟩ := hrel
    go_wp2_with fail
    refine (HN.out k).mono ?_
    rintro e w1 ⟨rfl, rfl⟩
    go_wp2
    go_ret2
    exact ⟨rfl, rfl⟩

/-- Where a mark's part begins: within the words. -/
theorem IsTb.part {w : World} {b mb : Nat} {F W C : Int} {ms : List Bool} (h : IsTb w b mb F W C ms) {n : Int} (n0 : 0 ≤ n) (n1 : n < ms.length) : 0 ≤ n * C ∧ n * C < W := by
  have k := marks_in h.w0 h.w1 h.c0
  have l := h.len
  have c0 := h.c0
  refine ⟨Int.mul_nonneg n0 (by omega), ?_⟩
  rw [← l] at k
  have h1 : (n + 1) * C ≤ ms.length * C := Int.mul_le_mul_of_nonneg_right (by omega) (by omega)
  rw [Int.add_mul, Int.one_mul] at h1
  omega

/-- Where it ends. -/
def endI (F W C n : Int) : Int := if F + n * C + C > F + W then F + W else F + n * C + C

set_option maxHeartbeats 4000000 in
theorem cPart_yes (n : Int) (h : IsTb w b mb F W C ms) (n0 : 0 ≤ n) (n1 : n < ms.length) :
    Calls Tryz.prog 141 #[tbP b, .int .i64 n] w fun e w' => e = .returned (.tuple #[.int .i64 (F + n * C), .int .i64 (endI F W C n)]) ∧ Below w.heap.size w w' := by
  have HF := chas_any b mb F W C ms n w h
  rw [hasI_yes n0 n1] at HF
  have HF := Lib.hid HF
  have hp := h.part n0 n1
  obtain ⟨c0, c1, c2, c3, cf⟩ := h.four
  have f0 := h.f0
  have f1 := h.f1
  have w1 := h.w1
  have k0 := h.c0
  have k1 := h.c1
  have HE := Lib.hid (show endI F W C n = if F + n * C + C > F + W then F + W else F + n * C + C from rfl)
  obtain ⟨L, hL⟩ : ∃ L, n * C = L := ⟨_, rfl⟩
  rw [hL] at hp HE ⊢
  obtain ⟨p0, p1⟩ := hp
  have s0 : IntKind.i64.wrap L = L := IntWalk.i64_in _ (by omega)
  have s1 : IntKind.i64.wrap (F + L) = F + L := IntWalk.i64_in _ (by omega)
  have s2 : IntKind.i64.wrap (L + C) = L + C := IntWalk.i64_in _ (by omega)
  clear h c3 n0 n1
  by_cases hm : W ≤ L + C
  · have HM := Lib.hid (show endI F W C n = F + W by rw [HE.out]; split <;> omega)
    have s3 : IntKind.i64.wrap (F + W) = F + W := IntWalk.i64_in _ (by omega)
    have m1 : (if L + C ≤ W then L + C else W) = W := by split <;> omega
    have m2 : (if L + C < W then L + C else W) = W := by split <;> omega
    have m3 : (if W < L + C then W else L + C) = W := by split <;> omega
    have m4 : (if W ≤ L + C then W else L + C) = W := by split <;> omega
    rw [HM.out]
    clear HE
    go_enter Tryz.func141, Tryz.ntmps141
    go_wp2_with fail
    refine HF.out.mono ?_
    rintro e w1 ⟨rfl, rfl⟩
    go_wp2_with fail
    go_region
    go_wp2
    go_ret2
    exact ⟨rfl, below_drew _⟩
  · have HM := Lib.hid (show endI F W C n = F + (L + C) by rw [HE.out]; split <;> omega)
    have s3 : IntKind.i64.wrap (F + (L + C)) = F + (L + C) := IntWalk.i64_in _ (by omega)
    have m1 : (if L + C ≤ W then L + C else W) = L + C := by split <;> omega
    have m2 : (if L + C < W then L + C else W) = L + C := by split <;> omega
    have m3 : (if W < L + C then W else L + C) = L + C := by split <;> omega
    have m4 : (if W ≤ L + C then W else L + C) = L + C := by split <;> omega
    rw [HM.out]
    clear HE
    go_enter Tryz.func141, Tryz.ntmps141
    go_wp2_with fail
    refine HF.out.mono ?_
    rintro e w1 ⟨rfl, rfl⟩
    go_wp2_with fail
    go_region
    go_wp2
    go_ret2
    exact ⟨rfl, below_drew _⟩

set_option maxHeartbeats 4000000 in
theorem cPart_no (n : Int) (h : IsTb w b mb F W C ms) (hn : n < 0 ∨ ms.length ≤ n) :
    Calls Tryz.prog 141 #[tbP b, .int .i64 n] w fun e w' => e = .returned (.tuple #[.int .i64 0, .int .i64 0]) ∧ w = w' := by
  have HF := chas_any b mb F W C ms n w h
  rw [hasI_no hn] at HF
  have HF := Lib.hid HF
  clear h hn
  go_enter Tryz.func141, Tryz.ntmps141
  go_wp2_with fail
  refine HF.out.mono ?_
  rintro e w1 ⟨rfl, rfl⟩
  go_wp2
  go_ret2
  exact ⟨rfl, rfl⟩

set_option maxHeartbeats 4000000 in
theorem cPart_nil (n : Int) : Calls Tryz.prog 141 #[.pointer none, .int .i64 n] w fun e w' => e = .returned (.tuple #[.int .i64 0, .int .i64 0]) ∧ w = w' := by
  go_enter Tryz.func141, Tryz.ntmps141
  go_wp2_with fail
  refine (chas_nil n w).mono ?_
  rintro e w1 ⟨rfl, rfl⟩
  go_wp2
  go_ret2
  exact ⟨rfl, rfl⟩

/-- How many of the first n are set. -/
def cntI (ms : List Bool) (n : Nat) : Nat := (ms.take n).count true

theorem cntI_next {ms : List Bool} {n : Nat} {x : Bool} (h : ms[n]? = some x) : cntI ms (n + 1) = cntI ms n + (if x then 1 else 0) := by
  unfold cntI
  rw [List.take_add_one, h, List.count_append]
  cases x <;> simp

theorem cntI_le (ms : List Bool) (n : Nat) : cntI ms n ≤ n := by
  unfold cntI
  have := List.count_le_length (a := true) (l := ms.take n)
  rw [List.length_take] at this
  omega

theorem cntI_all (ms : List Bool) : cntI ms ms.length = ms.count true := by unfold cntI; rw [List.take_length]

set_option maxHeartbeats 4000000 in
theorem cCount_any (h : IsTb w b mb F W C ms) :
    Calls Tryz.prog 129 #[tbP b] w fun e w' => e = .returned (.int .i64 (ms.count true : Nat)) ∧ w = w' := by
  have HA := Lib.hid (call_any b mb F W C ms w h)
  have few := h.few
  have HH := Lib.hid h
  have HN := Lib.hid (cntI_all ms)
  clear h
  go_enter Tryz.func129, Tryz.ntmps129
  go_wp2_with fail
  refine HA.out.mono ?_
  rintro e w1 ⟨rfl, rfl⟩
  go_wp2_with fail
  go_loopw [3, 9] (fun s3 s wr => ∃ j c : Nat, j ≤ ms.length ∧ s = .int .i64 j ∧ s3 = .int .i64 c ∧ c ≤ j ∧ Hid (cntI ms j = c) ∧ w = wr) (fun _ s _ => ms.length - (intOf s).toNat)
  case atStart => exact ⟨0, 0, Nat.zero_le _, rfl, rfl, Nat.le_refl _, Lib.hid (by simp [cntI]), rfl⟩
  case round =>
    obtain ⟨j, c, hj, rfl, rfl, hc, HT, rfl⟩ := hrel
    by_cases hlt : j < ms.length
    · obtain ⟨x, hx⟩ : ∃ x, ms[j]? = some x := ⟨_, List.getElem?_eq_getElem hlt⟩
      have cm := HH.out.row.bools hx
      have HX := Lib.hid hx
      clear hx
      cases x
      · have N1 := Lib.hid (show cntI ms (j + 1) = c by rw [cntI_next HX.out, HT.out]; rfl)
        go_wp2
        go_roundw
        case rel => exact ⟨j + 1, c, by omega, by go_num, rfl, by omega, N1, by trivial⟩
        case measure => simp [intOf]; omega
      · have N1 := Lib.hid (show cntI ms (j + 1) = c + 1 by rw [cntI_next HX.out, HT.out]; rfl)
        go_wp2
        go_roundw
        case rel => exact ⟨j + 1, c + 1, by omega, by go_num, by go_num, by omega, N1, by trivial⟩
        case measure => simp [intOf]; omega
    · obtain rfl : j = ms.length := by omega
      have E := Lib.hid (show ms.count true = c by rw [← HN.out, HT.out])
      go_wp2
      go_ret
      exact ⟨ret_int (by rw [E.out]), rfl⟩

set_option maxHeartbeats 4000000 in
theorem cCount_nil : Calls Tryz.prog 129 #[.pointer none] w fun e w' => e = .returned (.int .i64 0) ∧ w = w' := by
  go_enter Tryz.func129, Tryz.ntmps129
  go_wp2_with fail
  refine (call_nil w).mono ?_
  rintro e w1 ⟨rfl, rfl⟩
  go_wp2_with fail
  go_loopw [3, 9] (fun s3 s wr => s = .int .i64 0 ∧ s3 = .int .i64 0 ∧ w = wr) (fun _ s _ => 0)
  case atStart => exact ⟨rfl, rfl, rfl⟩
  case round =>
    obtain ⟨rfl, rfl, rfl⟩ := hrel
    go_wp2
    go_ret
    exact ⟨rfl, rfl⟩
end
end Go.Proofs.YthmhehehomieiaaGreat

/- A side of the program's set: its buffer and its table in memory; contracts of count, add, next, and of the function that makes an empty one. -/
namespace Go.Proofs.YthmhehehomieiaaGreat
open Go.RowKit

/-- Blocks b and t are a buffer with room for M, which holds xs, and a table of C words a card of W, from F on, with the marks ms; they and what they hold lie in blocks of S. -/
structure Sd (w : World) (b t : Nat) (S : Nat → Prop) (M F W C : Int) (xs : List Int) (ms : List Bool) : Prop where
  buf : ∃ A c, IsBuf w b M A xs.length c xs ∧ ∀ k, blkOf A = some k → S k
  tab : ∃ mb, IsTb w t mb F W C ms ∧ S mb
  sb : S b
  st : S t
  lt : ∀ k, S k → k < w.heap.size

abbrev sdV (b t : Nat) : Value := .agg #[bfP b, tbP t]

section
variable {S S' : Nat → Prop} {w w' : World} {b t : Nat} {M F W C : Int} {xs : List Int} {ms : List Bool}
theorem Sd.frm (h : Sd w b t S M F W C xs ms) (f : Frm S' w w') (dis : ∀ k, S k → ¬ S' k) : Sd w' b t S M F W C xs ms := by
  obtain ⟨⟨A, c, hb, hA⟩, ⟨mb, ht, hm⟩, sb, st, lt⟩ := h
  exact ⟨⟨A, c, hb.frm f (dis _ sb) fun k hk => dis k (hA k hk), hA⟩, ⟨mb, { ht with blk := ht.blk.frm f (dis _ st), row := ht.row.frm f (dis _ hm) }, hm⟩, sb, st, fun k hk => Nat.lt_of_lt_of_le (lt k hk) f.size⟩

theorem Sd.keep (h : Sd w b t S M F W C xs ms) (f : Below w.heap.size w w') : Sd w' b t S M F W C xs ms := h.frm (S' := fun _ => False) (Frm.of_below f) fun _ _ e => e

theorem Sd.m0 (h : Sd w b t S M F W C xs ms) : 0 ≤ M := by obtain ⟨A, c, hb, _⟩ := h.buf; exact hb.m0
theorem Sd.few (h : Sd w b t S M F W C xs ms) : (xs.length : Int) ≤ 1048576 := by obtain ⟨A, c, hb, _⟩ := h.buf; have := hb.few; have := hb.m1; omega
theorem Sd.room (h : Sd w b t S M F W C xs ms) : (xs.length : Int) ≤ M := by obtain ⟨A, c, hb, _⟩ := h.buf; exact hb.few
theorem Sd.marks (h : Sd w b t S M F W C xs ms) : ms.length ≤ 1048576 := by obtain ⟨mb, ht, _⟩ := h.tab; exact ht.few
theorem Sd.count_le (h : Sd w b t S M F W C xs ms) : ms.count true ≤ 1048576 := Nat.le_trans (List.count_le_length) h.marks

/-- The buffer has turned. -/
theorem Sd.bufT {A A' : Option Addr} {n c n' c' : Nat} {ys : List Int} {mb : Nat} (hb : IsBuf w b M A n c xs) (hA : ∀ k, blkOf A = some k → S k) (ht : IsTb w t mb F W C ms) (hm : S mb) (sb : S b) (st : S t) (lt : ∀ k, S k → k < w.heap.size)
    (h' : IsBuf w' b M A' n' c' ys) (k : BufT b A A' w w') : ∃ S', Sd w' b t S' M F W C ys ms ∧ Mv S S' w w' := by
  obtain rfl : ys.length = n' := h'.row.len
  have no : ∀ {g : Nat} {cs : Array Value} {ty : TypeId}, Blk w g cs ty → ty ≠ 191 → ty ≠ 3 → ¬ (g = b ∨ blkOf A = some g) := by
    rintro g cs ty hg n1 n2 (rfl | e)
    · exact Blk.ne_ hg hb.blk n1 rfl
    · rcases hb.row.lies with ⟨rfl, _⟩ | ⟨g', off, cs', rfl, hb', _⟩
      · cases e
      · cases e
        exact Blk.ne_ hg hb' n2 rfl
  refine ⟨fun j => S j ∨ blkOf A' = some j, ⟨⟨A', c', h', fun j hj => .inr hj⟩, ⟨mb, { ht with blk := ht.blk.frm k.frm (no ht.blk (by decide) (by decide)), row := ht.row.frm k.frm (no ht.row (by decide) (by decide)) }, .inl hm⟩, .inl sb, .inl st, ?_⟩, ?_, ?_⟩
  · rintro j (hj | hj)
    · exact Nat.lt_of_lt_of_le (lt j hj) k.frm.size
    · exact h'.row.lt hj
  · exact k.frm.mono fun i _ e => e.elim (fun e => e ▸ sb) (hA i)
  · rintro j (hj | hj)
    · exact .inl hj
    · exact (k.at_ j hj).imp (hA j) id

/-- The marks have turned. -/
theorem Sd.tabT {A : Option Addr} {n c : Nat} {ks : List Bool} {mb : Nat} (hb : IsBuf w b M A n c xs) (hA : ∀ k, blkOf A = some k → S k) (ht : IsTb w t mb F W C ms) (hm : S mb) (sb : S b) (st : S t) (lt : ∀ k, S k → k < w.heap.size)
    (k : Tn t mb F W C ks w w') : Sd w' b t S M F W C xs ks ∧ Mv S S w w' := by
  obtain rfl : xs.length = n := hb.row.len
  refine ⟨⟨⟨A, c, hb.frm k.frm (fun e => Blk.ne_ hb.blk ht.row (by decide) e) ?_, hA⟩, ⟨mb, k.is, hm⟩, sb, st, fun j hj => Nat.lt_of_lt_of_le (lt j hj) k.frm.size⟩, k.frm.mono fun i _ e => e ▸ hm, fun j hj => .inl hj⟩
  rintro j hj rfl
  rcases hb.row.lies with ⟨rfl, _⟩ | ⟨g', off, cs', rfl, hb', _⟩
  · cases hj
  · cases hj
    exact Blk.ne_ hb' ht.row (by decide) rfl
end

section
variable (S : Nat → Prop) (b t : Nat) (M F W C : Int) (xs : List Int) (ms : List Bool) (w : World)

/-- The box that a side is laid into. -/
abbrev sbx (b t : Nat) : Obj := .cells #[bfP b, tbP t] 142

set_option maxHeartbeats 4000000 in
theorem sd_count (h : Sd w b t S M F W C xs ms) :
    Calls Tryz.prog 93 #[sdV b t] w fun e w' => e = .returned (.int .i64 (xs.length + ms.count true : Nat)) ∧ Below w.heap.size w w' := by
  have few := h.few
  have cnt := h.count_le
  obtain ⟨⟨A, c, hb, hA⟩, ⟨mb, ht, hm⟩, sb, st, lt⟩ := h
  have bw : Below w.heap.size w (w.alloc (sbx b t)) := (Below.refl _ _).alloc (Nat.le_refl _) _
  have kb := Blk.new w #[bfP b, tbP t] 142
  have d0 := kb.cell 0
  have d1 := kb.cell 1
  have df := kb.frozen
  have HL := Lib.hid (fun n => Calls.quiet_of_same ((bfLen_any b M A _ c xs ((w.alloc (sbx b t)).drewN n) ((hb.keep bw).keep (below_drewN _ _))).mono fun e w' ⟨he, hw⟩ => ⟨he, hw.symm⟩))
  have HC := Lib.hid (fun n => Calls.quiet_of_same ((cCount_any t mb F W C ms ((w.alloc (sbx b t)).drewN n) ((ht.keep bw).keep (below_drewN _ _))).mono fun e w' ⟨he, hw⟩ => ⟨he, hw.symm⟩))
  have BW := Lib.hid bw
  have e1 : IntKind.i64.wrap ((xs.length : Int) + (ms.count true : Nat)) = ((xs.length + ms.count true : Nat) : Int) := by rw [IntWalk.i64_in _ (by omega)]; omega
  clear hb hA ht hm sb st lt bw kb
  unfold sdV bfP tbP at *
  go_enter Tryz.func93, Tryz.ntmps93
  go_wp2_with fail
  go_big_quiet (first | (go_at_call 128; exact HL.out _) | (go_at_call 129; exact HC.out _))
  go_wp2
  go_ret
  exact ⟨rfl, below_trans BW.out (below_drewN _ _)⟩

set_option maxHeartbeats 4000000 in
theorem sd_put (x : Int) (h : Sd w b t S M F W C xs ms) (hn : (xs.length : Int) < M) :
    Calls Tryz.prog 117 #[sdV b t, .int .i64 x] w fun e w' => e = .returned (.tuple #[]) ∧ ∃ S', Sd w' b t S' M F W C (xs ++ [x]) ms ∧ Mv S S' w w' := by
  obtain ⟨⟨A, c, hb, hA⟩, ⟨mb, ht, hm⟩, sb, st, lt⟩ := h
  have bw : Below w.heap.size w (w.alloc (sbx b t)) := (Below.refl _ _).alloc (Nat.le_refl _) _
  have kb := Blk.new w #[bfP b, tbP t] 142
  have d0 := kb.cell 0
  have df := kb.frozen
  have HP := Lib.hid (bfPut_yes b M A _ c xs x _ (hb.keep bw) hn)
  have HT := Lib.hid (fun w' A' n' c' (h' : IsBuf w' b M A' n' c' (xs ++ [x])) (k : BufT b A A' (w.alloc (sbx b t)) w') => (Sd.bufT (hb.keep bw) hA (ht.keep bw) hm sb st (fun k hk => Nat.lt_of_lt_of_le (lt k hk) bw.size) h' k).imp fun _ hs => And.intro hs.1 (hs.2.pre bw))
  clear hb hA ht hm sb st lt bw kb hn
  unfold sdV bfP tbP at *
  go_enter Tryz.func117, Tryz.ntmps117
  go_wp2_with fail
  refine HP.out.mono ?_
  rintro e w1 ⟨rfl, A', c', h', k⟩
  have R := Lib.hid (HT.out _ _ _ _ h' k)
  clear h' k HT HP d0 df
  go_wp2
  go_end0
  exact ⟨rfl, R.out⟩

set_option maxHeartbeats 4000000 in
theorem sd_mark (x : Int) (j : Nat) (h : Sd w b t S M F W C xs ms) (hn : M ≤ xs.length) (x0 : F ≤ x) (x1 : x < F + W) (hj : (x - F) / C = j) :
    Calls Tryz.prog 117 #[sdV b t, .int .i64 x] w fun e w' => e = .returned (.tuple #[]) ∧ ∃ S', Sd w' b t S' M F W C xs (ms.set j true) ∧ Mv S S' w w' := by
  obtain ⟨⟨A, c, hb, hA⟩, ⟨mb, ht, hm⟩, sb, st, lt⟩ := h
  have bw : Below w.heap.size w (w.alloc (sbx b t)) := (Below.refl _ _).alloc (Nat.le_refl _) _
  have kb := Blk.new w #[bfP b, tbP t] 142
  have d0 := kb.cell 0
  have df := kb.frozen
  have HP := Lib.hid (bfPut_no b M A _ c xs x _ (hb.keep bw) hn)
  have HM := Lib.hid (fun w1 (f : Below (w.alloc (sbx b t)).heap.size (w.alloc (sbx b t)) w1) => cMark_yes t mb F W C ms w1 x j ((ht.keep bw).keep f) x0 x1 hj)
  have HT := Lib.hid (fun w1 w' (f : Below (w.alloc (sbx b t)).heap.size (w.alloc (sbx b t)) w1) (k : Tn t mb F W C (ms.set j true) w1 w') =>
    (show ∃ S', Sd w' b t S' M F W C xs (ms.set j true) ∧ Mv S S' w w' from
      have hs := Sd.tabT ((hb.keep bw).keep f) hA ((ht.keep bw).keep f) hm sb st (fun k hk => Nat.lt_of_lt_of_le (lt k hk) (Nat.le_trans bw.size f.size)) k
      ⟨S, hs.1, hs.2.pre (below_trans bw f)⟩))
  have HK := Lib.hid (fun w1 (f : Below (w.alloc (sbx b t)).heap.size (w.alloc (sbx b t)) w1) => kb.keep f)
  clear hb hA ht hm sb st lt bw kb hn x0 x1 hj
  unfold sdV bfP tbP at *
  go_enter Tryz.func117, Tryz.ntmps117
  go_wp2_with fail
  refine HP.out.mono ?_
  rintro e w1 ⟨rfl, f⟩
  have f1 := (HK.out _ f).cell 1
  have ff := (HK.out _ f).frozen
  have FF := Lib.hid f
  clear f d0 df HP
  go_wp2_with fail
  refine (HM.out _ FF.out).mono ?_
  rintro e w2 ⟨rfl, k⟩
  have R := Lib.hid (HT.out _ _ FF.out k)
  clear k HT HM f1 ff
  go_wp2
  go_end0
  exact ⟨rfl, R.out⟩

/-- Four results. -/
theorem results_tmp4 {fn : Func} {t u v x : Tmp} (h : fn.results = #[.tmp t, .tmp u, .tmp v, .tmp x]) (tmps : Array Value) (P : Program) (w : World) :
    (results fn tmps).run P w = .ok (.tuple #[tmps.getD t undef, tmps.getD u undef, tmps.getD v undef, tmps.getD x undef]) w := by
  simp [results, h]

set_option maxHeartbeats 4000000 in
theorem sd_next_buf (x : Int) (x0 : -9223372036854775808 ≤ x) (x1 : x < 9223372036854775807) (h : Sd w b t S M F W C (x :: xs) ms) :
    Calls Tryz.prog 159 #[sdV b t] w fun e w' => e = .returned (.tuple #[.int .i64 x, .int .i64 (x + 1), .bool false, .bool true]) ∧ ∃ S', Sd w' b t S' M F W C xs ms ∧ Mv S S' w w' := by
  obtain ⟨⟨A, c, hb, hA⟩, ⟨mb, ht, hm⟩, sb, st, lt⟩ := h
  have bw : Below w.heap.size w (w.alloc (sbx b t)) := (Below.refl _ _).alloc (Nat.le_refl _) _
  have kb := Blk.new w #[bfP b, tbP t] 142
  have d0 := kb.cell 0
  have df := kb.frozen
  have HP := Lib.hid (bfTake_yes b M A _ c xs x _ (hb.keep bw))
  have HT := Lib.hid (fun w' A' n' c' (h' : IsBuf w' b M A' n' c' xs) (k : BufT b A A' (w.alloc (sbx b t)) w') => (Sd.bufT (hb.keep bw) hA (ht.keep bw) hm sb st (fun k hk => Nat.lt_of_lt_of_le (lt k hk) bw.size) h' k).imp fun _ hs => And.intro hs.1 (hs.2.pre bw))
  clear hb hA ht hm sb st lt bw kb
  unfold sdV bfP tbP at *
  go_enter Tryz.func159, Tryz.ntmps159
  go_wp2_with fail
  refine HP.out.mono ?_
  rintro e w1 ⟨rfl, A', c', h', k⟩
  have R := Lib.hid (HT.out _ _ _ _ h' k)
  clear h' k HT HP d0 df
  go_wp2
  (try simp only [Exit.inBlock, Exit.then])
  refine bodyPost_ret (results_tmp4 rfl _ _ _) rfl ?_
  exact ⟨rfl, R.out⟩

set_option maxHeartbeats 4000000 in
theorem sd_next_none (h : Sd w b t S M F W C [] ms) (hn : ∀ i : Nat, ms[i]? ≠ some true) :
    Calls Tryz.prog 159 #[sdV b t] w fun e w' => e = .returned (.tuple #[.int .i64 0, .int .i64 0, .bool false, .bool false]) ∧ Below w.heap.size w w' := by
  obtain ⟨⟨A, c, hb, hA⟩, ⟨mb, ht, hm⟩, sb, st, lt⟩ := h
  have bw : Below w.heap.size w (w.alloc (sbx b t)) := (Below.refl _ _).alloc (Nat.le_refl _) _
  have kb := Blk.new w #[bfP b, tbP t] 142
  have d0 := kb.cell 0
  have d1 := kb.cell 1
  have df := kb.frozen
  have HP := Lib.hid (bfTake_no b M A c _ (hb.keep bw))
  have HF := Lib.hid ((cFirst_any t mb F W C ms _ 0 (ht.keep bw) (by omega)).mono fun e w' ⟨r, ok, he, hf, hw⟩ => (show e = Ending.returned (.tuple #[.int .i64 0, .bool false]) ∧ w.alloc (sbx b t) = w' from by
    have := hf.one (r' := 0) (ok' := false) (Or.inr ⟨rfl, rfl, fun i _ => hn i⟩)
    rw [he, this.1, this.2]
    exact ⟨rfl, hw⟩))
  have BW := Lib.hid bw
  clear hb hA ht hm sb st lt bw kb hn
  unfold sdV bfP tbP at *
  go_enter Tryz.func159, Tryz.ntmps159
  go_wp2_with fail
  refine HP.out.mono ?_
  rintro e w1 ⟨rfl, rfl⟩
  go_wp2_with fail
  refine HF.out.mono ?_
  rintro e w1 ⟨rfl, rfl⟩
  go_wp2
  (try simp only [Exit.inBlock, Exit.then])
  refine bodyPost_ret (results_tmp4 rfl _ _ _) rfl ?_
  exact ⟨rfl, BW.out⟩

set_option maxHeartbeats 4000000 in
theorem sd_next_card (j : Nat) (h : Sd w b t S M F W C [] ms) (hj : ms[j]? = some true) (hn : ∀ i : Nat, i < j → ms[i]? = some false) :
    Calls Tryz.prog 159 #[sdV b t] w fun e w' => e = .returned (.tuple #[.int .i64 (F + j * C), .int .i64 (endI F W C j), .bool true, .bool true]) ∧ ∃ S', Sd w' b t S' M F W C [] (ms.set j false) ∧ Mv S S' w w' := by
  obtain ⟨⟨A, c, hb, hA⟩, ⟨mb, ht, hm⟩, sb, st, lt⟩ := h
  have bw : Below w.heap.size w (w.alloc (sbx b t)) := (Below.refl _ _).alloc (Nat.le_refl _) _
  have kb := Blk.new w #[bfP b, tbP t] 142
  have d0 := kb.cell 0
  have d1 := kb.cell 1
  have df := kb.frozen
  have jl : j < ms.length := (List.getElem?_eq_some_iff.1 hj).1
  have HP := Lib.hid (bfTake_no b M A c _ (hb.keep bw))
  have HF := Lib.hid ((cFirst_any t mb F W C ms _ 0 (ht.keep bw) (by omega)).mono fun e w' ⟨r, ok, he, hf, hw⟩ => (show e = Ending.returned (.tuple #[.int .i64 j, .bool true]) ∧ w.alloc (sbx b t) = w' from by
    have := hf.one (r' := j) (ok' := true) (Or.inl ⟨j, rfl, rfl, by omega, hj, fun i _ => hn i⟩)
    rw [he, this.1, this.2]
    exact ⟨rfl, hw⟩))
  have HC := Lib.hid (cClear_yes t mb F W C ms _ j true (ht.keep bw) hj)
  have HT := Lib.hid (fun w' (k : Tn t mb F W C (ms.set j false) (w.alloc (sbx b t)) w') =>
    (show Calls Tryz.prog 141 #[tbP t, .int .i64 j] w' (fun e w2 => e = .returned (.tuple #[.int .i64 (F + j * C), .int .i64 (endI F W C j)]) ∧ Below w'.heap.size w' w2) ∧ Blk w' w.heap.size #[bfP b, tbP t] 142 ∧ ∃ S', Sd w' b t S' M F W C [] (ms.set j false) ∧ Mv S S' w w' from
      have hs := Sd.tabT (hb.keep bw) hA (ht.keep bw) hm sb st (fun k hk => Nat.lt_of_lt_of_le (lt k hk) bw.size) k
      ⟨cPart_yes t mb F W C _ _ j k.is (by omega) (by rw [List.length_set]; omega), kb.frm k.frm (by rintro rfl; have := ht.row.lt; omega), S, hs.1, hs.2.pre bw⟩))
  clear hb hA ht hm sb st lt bw kb hn hj
  unfold sdV bfP tbP at *
  go_enter Tryz.func159, Tryz.ntmps159
  go_wp2_with fail
  refine HP.out.mono ?_
  rintro e w1 ⟨rfl, rfl⟩
  go_wp2_with fail
  refine HF.out.mono ?_
  rintro e w1 ⟨rfl, rfl⟩
  go_wp2_with fail
  refine HC.out.mono ?_
  rintro e w1 ⟨rfl, k⟩
  obtain ⟨hp, kb, sd⟩ := HT.out _ k
  have HP2 := Lib.hid hp
  have SD := Lib.hid sd
  have f1 := kb.cell 1
  have ff := kb.frozen
  clear hp sd kb k HT HC HF HP d0 d1 df
  go_wp2_with fail
  refine HP2.out.mono ?_
  rintro e w2 ⟨rfl, b2⟩
  have R := Lib.hid (SD.out.imp fun _ hs => And.intro (hs.1.keep b2) (hs.2.post b2))
  clear b2 HP2 SD f1 ff
  go_wp2
  (try simp only [Exit.inBlock, Exit.then])
  refine bodyPost_ret (results_tmp4 rfl _ _ _) rfl ?_
  exact ⟨rfl, R.out⟩
end

/-- The four numbers that a side is made of. -/
structure Caps (w : World) (k0 k1 k2 k3 : Nat) (m f n c : Int) : Prop where
  b0 : Blk w k0 #[.int .i64 m] 3
  b1 : Blk w k1 #[.int .i64 f] 3
  b2 : Blk w k2 #[.int .i64 n] 3
  b3 : Blk w k3 #[.int .i64 c] 3

section
variable {w w' : World} {k0 k1 k2 k3 : Nat} {m f n c : Int}
theorem Caps.keep (h : Caps w k0 k1 k2 k3 m f n c) (b : Below w.heap.size w w') : Caps w' k0 k1 k2 k3 m f n c := ⟨h.b0.keep b, h.b1.keep b, h.b2.keep b, h.b3.keep b⟩
theorem Caps.frm {S : Nat → Prop} (h : Caps w k0 k1 k2 k3 m f n c) (b : Frm S w w') (n0 : ¬ S k0) (n1 : ¬ S k1) (n2 : ¬ S k2) (n3 : ¬ S k3) : Caps w' k0 k1 k2 k3 m f n c := ⟨h.b0.frm b n0, h.b1.frm b n1, h.b2.frm b n2, h.b3.frm b n3⟩
theorem Caps.set2 (h : Caps w k0 k1 k2 k3 m f n c) {g : Nat} (n0 : ¬ k0 = g) (n1 : ¬ k1 = g) (n2 : ¬ k2 = g) (n3 : ¬ k3 = g) (i j : Nat) (u v : Value) : Caps ((w.setCell ⟨g, i, none⟩ u).setCell ⟨g, j, none⟩ v) k0 k1 k2 k3 m f n c :=
  ⟨(h.b0.far n0 _).far n0 _, (h.b1.far n1 _).far n1 _, (h.b2.far n2 _).far n2 _, (h.b3.far n3 _).far n3 _⟩
theorem Caps.four (h : Caps w k0 k1 k2 k3 m f n c) : w.cell? ⟨k0, 0, none⟩ = some (.int .i64 m) ∧ w.cell? ⟨k1, 0, none⟩ = some (.int .i64 f) ∧ w.cell? ⟨k2, 0, none⟩ = some (.int .i64 n) ∧ w.cell? ⟨k3, 0, none⟩ = some (.int .i64 c) :=
  ⟨h.b0.cell 0, h.b1.cell 0, h.b2.cell 0, h.b3.cell 0⟩
end

/-- How many cards there are. -/
def nmI (W C : Int) : Nat := ((W + C - 1) / C).toNat

/-- A pointer to a block's beginning. -/
abbrev ptr (k : Nat) : Value := .pointer (some ⟨k, 0, none⟩)

/-- What a fresh side is. -/
def Fresh (w w' : World) (b t : Nat) (m f n c : Int) : Prop :=
  Sd w' b t (fun k => w.heap.size ≤ k ∧ k < w'.heap.size) (cutI m 0 1048576) (cutI f 0 1048576) (cutI n 0 1048576) (cutI c 1 1048576) [] (List.replicate (nmI (cutI n 0 1048576) (cutI c 1 1048576)) false)

set_option maxHeartbeats 8000000 in
theorem sd_make (k0 k1 k2 k3 : Nat) (m f n c : Int) (w : World) (h : Caps w k0 k1 k2 k3 m f n c) :
    Calls Tryz.prog 142 #[ptr k0, ptr k1, ptr k2, ptr k3] w fun e w' => ∃ b t, e = .returned (sdV b t) ∧ Fresh w w' b t m f n c ∧ Below w.heap.size w w' := by
  have bw : Below w.heap.size w (w.alloc (.cells #[.pointer none, .pointer none] 142)) := (Below.refl _ _).alloc (Nat.le_refl _) _
  have kk := (h.keep bw).keep (below_drew _)
  have rr : Blk (w.alloc (.cells #[.pointer none, .pointer none] 142)).drew w.heap.size #[.pointer none, .pointer none] 142 := (Blk.new w _ _).drew
  have bb := below_trans bw (below_drew _)
  clear bw
  have n0 : ¬ k0 = w.heap.size := fun e => Nat.lt_irrefl _ (e ▸ h.b0.lt)
  have n1 : ¬ k1 = w.heap.size := fun e => Nat.lt_irrefl _ (e ▸ h.b1.lt)
  have n2 : ¬ k2 = w.heap.size := fun e => Nat.lt_irrefl _ (e ▸ h.b2.lt)
  have n3 : ¬ k3 = w.heap.size := fun e => Nat.lt_irrefl _ (e ▸ h.b3.lt)
  obtain ⟨g0, g1, g2, g3⟩ := h.four
  clear h
  go_enter Tryz.func142, Tryz.ntmps142
  go_wp2_with fail
  go_region_held3 (fun w' => w'.cell? ⟨k0, 0, none⟩ = some (.int .i64 m) ∧ w'.cell? ⟨k1, 0, none⟩ = some (.int .i64 f) ∧ w'.cell? ⟨k2, 0, none⟩ = some (.int .i64 n) ∧ w'.cell? ⟨k3, 0, none⟩ = some (.int .i64 c))
   (first | exact kk.four | exact (kk.set2 n0 n1 n2 n3 _ _ _ _).four)
   (first
    | (go_at_call 143; refine (bfNew_any m _).mono ?_; rintro e v1 ⟨rfl, hb, b2⟩; have hb0 := hb; have kk := kk.keep b2; have rr := rr.keep b2; have bb := below_trans bb b2; clear b2)
    | (go_at_call 140; refine (cNew_any f n c _).mono ?_; rintro e v2 ⟨t, mb, rfl, t1, t2, hN, b2⟩; have hb := hb.keep b2; have kk := kk.keep b2; have rr := rr.keep b2; have bb := below_trans bb b2; have q0 := rr.cell 0; have q1 := rr.cell 1; have qf := rr.frozen; clear b2))
  all_goals
    go_wp2
    have z1 := ((rr.set_ 0 (bfP (w.heap.size + 1))).set_ 1 (tbP t)).cell 1
    have z2 := ((rr.set_ 0 (bfP (w.heap.size + 1))).set_ 1 (tbP t)).cell 0
    have hfin : Below w.heap.size w ((v2.setCell ⟨w.heap.size, 0, none⟩ (bfP (w.heap.size + 1))).setCell ⟨w.heap.size, 1, none⟩ (tbP t)) := (bb.setCell (Nat.le_refl _) _).setCell (Nat.le_refl _) _
    have hs : (w.alloc (.cells #[.pointer none, .pointer none] 142)).drew.heap.size = w.heap.size + 1 := by simp
    have hfar : Frm (· = w.heap.size) v2 ((v2.setCell ⟨w.heap.size, 0, none⟩ (bfP (w.heap.size + 1))).setCell ⟨w.heap.size, 1, none⟩ (tbP t)) := Frm.setCell (S := (· = w.heap.size)) (Frm.setCell (S := (· = w.heap.size)) (Frm.refl _ v2) (p := ⟨w.heap.size, 0, none⟩) (fun _ => rfl) _) (p := ⟨w.heap.size, 1, none⟩) (fun _ => rfl) _
    (try simp only [Exit.inBlock, Exit.then])
    refine bodyPost_ret (v := sdV (w.heap.size + 1) t) (by simp [results, Tryz.results142, go_sem, z1, z2]) rfl ⟨_, _, rfl, ?_, hfin⟩
    obtain ⟨N, hN, ht⟩ := hN
    have eN : nmI (cutI n 0 1048576) (cutI c 1 1048576) = N := by unfold nmI; omega
    rw [hs] at hb
    have v1s := (hb0.blk.lt : _ < v1.heap.size)
    refine ⟨⟨none, 0, hb.frm hfar (by omega) (fun k hk => by cases hk), fun k hk => by cases hk⟩, ⟨mb, ?_, by omega, ?_⟩, ⟨by omega, ?_⟩, ⟨by omega, ?_⟩, fun k hk => hk.2⟩
    · rw [eN]
      exact { ht with blk := ht.blk.frm hfar (by omega), row := ht.row.frm hfar (by omega) }
    · exact Nat.lt_of_lt_of_le ht.row.lt hfar.size
    · exact Nat.lt_of_lt_of_le hb.blk.lt hfar.size
    · exact Nat.lt_of_lt_of_le ht.blk.lt hfar.size
end Go.Proofs.YthmhehehomieiaaGreat

/- The program's set in memory; contracts of Left, Len, Add, Next, Flip, New; of none, too. -/
namespace Go.Proofs.YthmhehehomieiaaGreat
open Go.RowKit

/-- What a set's block holds, and where its sides lie. -/
structure Pt where
  (X Y m f n c : Int)
  (k0 k1 k2 k3 b1 t1 b2 t2 : Nat)
  (S1 S2 : Nat → Prop)

/-- The blocks of a set. -/
def Pt.own (p : Pt) (s : Nat) (k : Nat) : Prop := k = s ∨ k = p.k0 ∨ k = p.k1 ∨ k = p.k2 ∨ k = p.k3 ∨ p.S1 k ∨ p.S2 k

abbrev fnV (k0 k1 k2 k3 : Nat) : Value := .func (.func 142) #[] #[ptr k0, ptr k1, ptr k2, ptr k3]

/-- Block s is a set: xs and ms are to be looked at, ys and ns are beside them. -/
structure IsSet (w : World) (s : Nat) (p : Pt) (M F W C : Int) (xs : List Int) (ms : List Bool) (ys : List Int) (ns : List Bool) : Prop where
  blk : Blk w s #[.int .i64 p.X, .int .i64 p.Y, fnV p.k0 p.k1 p.k2 p.k3, bfP p.b1, tbP p.t1, bfP p.b2, tbP p.t2] 144
  caps : Caps w p.k0 p.k1 p.k2 p.k3 p.m p.f p.n p.c
  room : cutI p.m 0 1048576 = M
  from_ : cutI p.f 0 1048576 = F
  words : cutI p.n 0 1048576 = W
  card : cutI p.c 1 1048576 = C
  in_ : ∀ x, (p.X ≤ x ∧ x < p.Y) ↔ (F ≤ x ∧ x < F + W)
  look : Sd w p.b1 p.t1 p.S1 M F W C xs ms
  rest : Sd w p.b2 p.t2 p.S2 M F W C ys ns
  two : ∀ k, p.S1 k → ¬ p.S2 k
  one : ∀ k, (p.S1 k ∨ p.S2 k) → k ≠ s ∧ k ≠ p.k0 ∧ k ≠ p.k1 ∧ k ≠ p.k2 ∧ k ≠ p.k3
  xin : ∀ x ∈ xs, F ≤ x ∧ x < F + W
  yin : ∀ x ∈ ys, F ≤ x ∧ x < F + W

section
variable {w w' : World} {s : Nat} {p : Pt} {M F W C : Int} {xs ys : List Int} {ms ns : List Bool}

theorem IsSet.lt (h : IsSet w s p M F W C xs ms ys ns) {k : Nat} (hk : p.own s k) : k < w.heap.size := by
  rcases hk with rfl | rfl | rfl | rfl | rfl | hk | hk
  · exact h.blk.lt
  · exact h.caps.b0.lt
  · exact h.caps.b1.lt
  · exact h.caps.b2.lt
  · exact h.caps.b3.lt
  · exact h.look.lt _ hk
  · exact h.rest.lt _ hk

theorem IsSet.frm {S : Nat → Prop} (h : IsSet w s p M F W C xs ms ys ns) (f : Frm S w w') (hs : ∀ k, p.own s k → ¬ S k) : IsSet w' s p M F W C xs ms ys ns :=
  { h with
    blk := h.blk.frm f (hs _ (.inl rfl))
    caps := h.caps.frm f (hs _ (.inr (.inl rfl))) (hs _ (.inr (.inr (.inl rfl)))) (hs _ (.inr (.inr (.inr (.inl rfl))))) (hs _ (.inr (.inr (.inr (.inr (.inl rfl))))))
    look := h.look.frm f fun k hk => hs k (.inr (.inr (.inr (.inr (.inr (.inl hk))))))
    rest := h.rest.frm f fun k hk => hs k (.inr (.inr (.inr (.inr (.inr (.inr hk)))))) }

theorem IsSet.keep (h : IsSet w s p M F W C xs ms ys ns) (f : Below w.heap.size w w') : IsSet w' s p M F W C xs ms ys ns := h.frm (S := fun _ => False) (Frm.of_below f) fun _ _ e => e

theorem IsSet.seven (h : IsSet w s p M F W C xs ms ys ns) :
    w.cell? ⟨s, 0, none⟩ = some (.int .i64 p.X) ∧ w.cell? ⟨s, 1, none⟩ = some (.int .i64 p.Y) ∧ w.cell? ⟨s, 2, none⟩ = some (fnV p.k0 p.k1 p.k2 p.k3) ∧ w.cell? ⟨s, 3, none⟩ = some (bfP p.b1) ∧ w.cell? ⟨s, 4, none⟩ = some (tbP p.t1) ∧ w.cell? ⟨s, 5, none⟩ = some (bfP p.b2) ∧ w.cell? ⟨s, 6, none⟩ = some (tbP p.t2) ∧
    (∀ i, w.frozen? ⟨s, i, none⟩ = false) := h.blk.seven

theorem IsSet.new (h : IsSet w s p M F W C xs ms ys ns) {k : Nat} (hk : w.heap.size ≤ k) : k ≠ s ∧ k ≠ p.k0 ∧ k ≠ p.k1 ∧ k ≠ p.k2 ∧ k ≠ p.k3 := by
  have := h.blk.lt
  have := h.caps.b0.lt
  have := h.caps.b1.lt
  have := h.caps.b2.lt
  have := h.caps.b3.lt
  omega

/-- What is to be looked at has turned. -/
theorem IsSet.lookT {S' : Nat → Prop} {us : List Int} {ks : List Bool} (h : IsSet w s p M F W C xs ms ys ns) (sd : Sd w' p.b1 p.t1 S' M F W C us ks) (mv : Mv p.S1 S' w w') (hin : ∀ x ∈ us, F ≤ x ∧ x < F + W) :
    ∃ p', IsSet w' s p' M F W C us ks ys ns ∧ Mv (p.own s) (p'.own s) w w' := by
  have o := fun k (hk : p.S1 k) => h.one k (.inl hk)
  have new : ∀ k, S' k → p.S1 k ∨ w.heap.size ≤ k := mv.at_
  refine ⟨{ p with S1 := S' }, { h with blk := ?_, caps := ?_, look := sd, rest := h.rest.frm mv.frm fun k hk hn => h.two k hn hk, two := ?_, one := ?_, xin := hin }, ?_, ?_⟩
  · exact h.blk.frm mv.frm fun e => (o _ e).1 rfl
  · exact h.caps.frm mv.frm (fun e => (o _ e).2.1 rfl) (fun e => (o _ e).2.2.1 rfl) (fun e => (o _ e).2.2.2.1 rfl) (fun e => (o _ e).2.2.2.2 rfl)
  · intro k hk h2
    rcases new k hk with e | e
    · exact h.two k e h2
    · have := h.rest.lt k h2; omega
  · rintro k (hk | hk)
    · rcases new k hk with e | e
      · exact o k e
      · exact h.new e
    · exact h.one k (.inr hk)
  · exact mv.frm.mono fun i _ e => .inr (.inr (.inr (.inr (.inr (.inl e)))))
  · rintro k (e | e | e | e | e | e | e)
    · exact .inl (.inl e)
    · exact .inl (.inr (.inl e))
    · exact .inl (.inr (.inr (.inl e)))
    · exact .inl (.inr (.inr (.inr (.inl e))))
    · exact .inl (.inr (.inr (.inr (.inr (.inl e)))))
    · exact (new k e).imp (fun e => .inr (.inr (.inr (.inr (.inr (.inl e)))))) id
    · exact .inl (.inr (.inr (.inr (.inr (.inr (.inr e))))))

/-- What is beside it has turned. -/
theorem IsSet.restT {S' : Nat → Prop} {us : List Int} {ks : List Bool} (h : IsSet w s p M F W C xs ms ys ns) (sd : Sd w' p.b2 p.t2 S' M F W C us ks) (mv : Mv p.S2 S' w w') (hin : ∀ x ∈ us, F ≤ x ∧ x < F + W) :
    ∃ p', IsSet w' s p' M F W C xs ms us ks ∧ Mv (p.own s) (p'.own s) w w' := by
  have o := fun k (hk : p.S2 k) => h.one k (.inr hk)
  have new : ∀ k, S' k → p.S2 k ∨ w.heap.size ≤ k := mv.at_
  refine ⟨{ p with S2 := S' }, { h with blk := ?_, caps := ?_, look := h.look.frm mv.frm h.two, rest := sd, two := ?_, one := ?_, yin := hin }, ?_, ?_⟩
  · exact h.blk.frm mv.frm fun e => (o _ e).1 rfl
  · exact h.caps.frm mv.frm (fun e => (o _ e).2.1 rfl) (fun e => (o _ e).2.2.1 rfl) (fun e => (o _ e).2.2.2.1 rfl) (fun e => (o _ e).2.2.2.2 rfl)
  · intro k hk h2
    rcases new k h2 with e | e
    · exact h.two k hk e
    · have := h.look.lt k hk; omega
  · rintro k (hk | hk)
    · exact h.one k (.inl hk)
    · rcases new k hk with e | e
      · exact o k e
      · exact h.new e
  · exact mv.frm.mono fun i _ e => .inr (.inr (.inr (.inr (.inr (.inr e)))))
  · rintro k (e | e | e | e | e | e | e)
    · exact .inl (.inl e)
    · exact .inl (.inr (.inl e))
    · exact .inl (.inr (.inr (.inl e)))
    · exact .inl (.inr (.inr (.inr (.inl e))))
    · exact .inl (.inr (.inr (.inr (.inr (.inl e)))))
    · exact .inl (.inr (.inr (.inr (.inr (.inr (.inl e))))))
    · exact (new k e).imp (fun e => .inr (.inr (.inr (.inr (.inr (.inr e)))))) id

/-- How the turn is made: what was beside is to be looked at; a fresh side is beside it. -/
theorem IsSet.turn {w1 : World} {b t : Nat} (h : IsSet w s p M F W C xs ms ys ns) (b1 : Below w.heap.size w w1) (fr : Fresh w w1 b t p.m p.f p.n p.c)
    (k : Blk w' s #[.int .i64 p.X, .int .i64 p.Y, fnV p.k0 p.k1 p.k2 p.k3, bfP p.b2, tbP p.t2, bfP b, tbP t] 144) (f : Frm (· = s) w1 w') :
    ∃ p', IsSet w' s p' M F W C ys ns [] (List.replicate (nmI W C) false) ∧ Mv (p.own s) (p'.own s) w w' := by
  have fr1 : Sd w1 b t (fun k => w.heap.size ≤ k ∧ k < w1.heap.size) M F W C [] (List.replicate (nmI W C) false) := by
    have := fr
    unfold Fresh at this
    rw [h.room, h.from_, h.words, h.card] at this
    exact this
  have ls := h.blk.lt
  have l0 := h.caps.b0.lt
  have l1 := h.caps.b1.lt
  have l2 := h.caps.b2.lt
  have l3 := h.caps.b3.lt
  refine ⟨{ p with b1 := p.b2, t1 := p.t2, S1 := p.S2, b2 := b, t2 := t, S2 := fun k => w.heap.size ≤ k ∧ k < w1.heap.size }, ⟨k, ?_, h.room, h.from_, h.words, h.card, h.in_, ?_, ?_, ?_, ?_, h.yin, fun x hx => by cases hx⟩, ?_, ?_⟩
  · exact (h.caps.keep b1).frm f (Blk.ne_ h.caps.b0 h.blk (by decide)) (Blk.ne_ h.caps.b1 h.blk (by decide)) (Blk.ne_ h.caps.b2 h.blk (by decide)) (Blk.ne_ h.caps.b3 h.blk (by decide))
  · exact (h.rest.keep b1).frm f fun j hj e => (h.one j (.inr hj)).1 e
  · exact fr1.frm f fun j hj e => by have := hj.1; omega
  · intro j hj h2
    have := h.rest.lt j hj
    have := h2.1
    omega
  · rintro j (hj | ⟨hj, _⟩)
    · exact h.one j (.inr hj)
    · exact h.new hj
  · exact (Frm.of_below (S := p.own s) b1).trans f fun i _ e => .inl e
  · rintro j (e | e | e | e | e | e | ⟨e, _⟩)
    · exact .inl (.inl e)
    · exact .inl (.inr (.inl e))
    · exact .inl (.inr (.inr (.inl e)))
    · exact .inl (.inr (.inr (.inr (.inl e))))
    · exact .inl (.inr (.inr (.inr (.inr (.inl e)))))
    · exact .inl (.inr (.inr (.inr (.inr (.inr (.inr e))))))
    · exact .inr e
end

set_option maxRecDepth 100000 in
theorem ne_fn (fn : Fn) (cap : Array Value) (v : World) : Sem.run Tryz.prog (binOp .neq 138 (.func fn #[] cap) .nilFunc) v = .ok (.bool true) v := rfl

section
variable (s : Nat) (p : Pt) (M F W C : Int) (xs ys : List Int) (ms ns : List Bool) (w : World)

set_option maxHeartbeats 2000000 in
theorem set_left (h : IsSet w s p M F W C xs ms ys ns) :
    Calls Tryz.prog 138 #[ptr s] w fun e w' => e = .returned (.int .i64 (xs.length + ms.count true : Nat)) ∧ Below w.heap.size w w' := by
  obtain ⟨c0, c1, c2, c3, c4, c5, c6, cf⟩ := h.seven
  have H := Lib.hid (sd_count _ _ _ M F W C xs ms w h.look)
  unfold sdV bfP tbP ptr fnV at *
  clear h c0 c1 c2 c5 c6 cf
  go_enter Tryz.func138, Tryz.ntmps138
  go_wp2_with fail
  refine H.out.mono ?_
  rintro e w1 ⟨rfl, b1⟩
  have B := Lib.hid b1
  clear b1
  go_wp2
  go_ret
  exact ⟨rfl, B.out⟩

set_option maxHeartbeats 2000000 in
theorem set_len (h : IsSet w s p M F W C xs ms ys ns) :
    Calls Tryz.prog 39 #[ptr s] w fun e w' => e = .returned (.int .i64 (ys.length + ns.count true : Nat)) ∧ Below w.heap.size w w' := by
  obtain ⟨c0, c1, c2, c3, c4, c5, c6, cf⟩ := h.seven
  have H := Lib.hid (sd_count _ _ _ M F W C ys ns w h.rest)
  unfold sdV bfP tbP ptr fnV at *
  clear h c0 c1 c2 c3 c4 cf
  go_enter Tryz.func39, Tryz.ntmps39
  go_wp2_with fail
  refine H.out.mono ?_
  rintro e w1 ⟨rfl, b1⟩
  have B := Lib.hid b1
  clear b1
  go_wp2
  go_ret
  exact ⟨rfl, B.out⟩

set_option maxHeartbeats 2000000 in
theorem set_add_no (x : Int) (h : IsSet w s p M F W C xs ms ys ns) (hx : ¬ (F ≤ x ∧ x < F + W)) :
    Calls Tryz.prog 79 #[ptr s, .int .i64 x] w fun e w' => e = .returned (.bool false) ∧ w = w' := by
  obtain ⟨c0, c1, c2, c3, c4, c5, c6, cf⟩ := h.seven
  rw [← h.in_ x] at hx
  obtain ⟨X, eX⟩ : ∃ X, p.X = X := ⟨_, rfl⟩
  obtain ⟨Y, eY⟩ : ∃ Y, p.Y = Y := ⟨_, rfl⟩
  rw [eX] at c0 hx
  rw [eY] at c1 hx
  clear h c2 c3 c4 c5 c6 cf eX eY
  unfold ptr
  by_cases h0 : x < X
  · have d0 : decide (x < X) = true := decide_eq_true h0
    clear hx
    go_enter Tryz.func79, Tryz.ntmps79
    go_wp2
    go_ret
    exact ⟨rfl, rfl⟩
  · have h1 : Y ≤ x := by omega
    have d0 : decide (x < X) = false := decide_eq_false h0
    have d1 : decide (Y ≤ x) = true := decide_eq_true h1
    clear hx
    go_enter Tryz.func79, Tryz.ntmps79
    go_wp2
    go_ret
    exact ⟨rfl, rfl⟩

set_option maxHeartbeats 2000000 in
theorem set_add_put (x : Int) (h : IsSet w s p M F W C xs ms ys ns) (x0 : F ≤ x) (x1 : x < F + W) (hn : (ys.length : Int) < M) :
    Calls Tryz.prog 79 #[ptr s, .int .i64 x] w fun e w' => e = .returned (.bool true) ∧ ∃ p', IsSet w' s p' M F W C xs ms (ys ++ [x]) ns ∧ Mv (p.own s) (p'.own s) w w' := by
  obtain ⟨c0, c1, c2, c3, c4, c5, c6, cf⟩ := h.seven
  obtain ⟨y0, y1⟩ := (h.in_ x).2 ⟨x0, x1⟩
  have H := Lib.hid (sd_put _ _ _ M F W C ys ns w x h.rest hn)
  have K := Lib.hid (fun w' S' sd mv => h.restT (w' := w') (S' := S') (us := ys ++ [x]) (ks := ns) sd mv (fun z hz => by
    rcases List.mem_append.1 hz with hz | hz
    · exact h.yin z hz
    · rw [List.mem_singleton] at hz; subst hz; exact ⟨x0, x1⟩))
  obtain ⟨X, eX⟩ : ∃ X, p.X = X := ⟨_, rfl⟩
  obtain ⟨Y, eY⟩ : ∃ Y, p.Y = Y := ⟨_, rfl⟩
  rw [eX] at c0 y0
  rw [eY] at c1 y1
  unfold sdV bfP tbP ptr fnV at *
  clear h c2 c3 c4 cf eX eY x0 x1 hn
  have d0 : decide (x < X) = false := decide_eq_false (by omega)
  have d1 : decide (Y ≤ x) = false := decide_eq_false (by omega)
  go_enter Tryz.func79, Tryz.ntmps79
  go_wp2_with fail
  refine H.out.mono ?_
  rintro e w1 ⟨rfl, S', sd, mv⟩
  have R := Lib.hid (K.out _ _ sd mv)
  clear sd mv K H
  go_wp2
  go_ret
  exact ⟨rfl, R.out⟩

set_option maxHeartbeats 2000000 in
theorem set_add_mark (x : Int) (j : Nat) (h : IsSet w s p M F W C xs ms ys ns) (x0 : F ≤ x) (x1 : x < F + W) (hn : M ≤ ys.length) (hj : (x - F) / C = j) :
    Calls Tryz.prog 79 #[ptr s, .int .i64 x] w fun e w' => e = .returned (.bool true) ∧ ∃ p', IsSet w' s p' M F W C xs ms ys (ns.set j true) ∧ Mv (p.own s) (p'.own s) w w' := by
  obtain ⟨c0, c1, c2, c3, c4, c5, c6, cf⟩ := h.seven
  obtain ⟨y0, y1⟩ := (h.in_ x).2 ⟨x0, x1⟩
  have H := Lib.hid (sd_mark _ _ _ M F W C ys ns w x j h.rest hn x0 x1 hj)
  have K := Lib.hid (fun w' S' sd mv => h.restT (w' := w') (S' := S') (us := ys) (ks := ns.set j true) sd mv h.yin)
  obtain ⟨X, eX⟩ : ∃ X, p.X = X := ⟨_, rfl⟩
  obtain ⟨Y, eY⟩ : ∃ Y, p.Y = Y := ⟨_, rfl⟩
  rw [eX] at c0 y0
  rw [eY] at c1 y1
  unfold sdV bfP tbP ptr fnV at *
  clear h c2 c3 c4 cf eX eY x0 x1 hn hj
  have d0 : decide (x < X) = false := decide_eq_false (by omega)
  have d1 : decide (Y ≤ x) = false := decide_eq_false (by omega)
  go_enter Tryz.func79, Tryz.ntmps79
  go_wp2_with fail
  refine H.out.mono ?_
  rintro e w1 ⟨rfl, S', sd, mv⟩
  have R := Lib.hid (K.out _ _ sd mv)
  clear sd mv K H
  go_wp2
  go_ret
  exact ⟨rfl, R.out⟩

set_option maxHeartbeats 2000000 in
theorem set_next_buf (x : Int) (h : IsSet w s p M F W C (x :: xs) ms ys ns) :
    Calls Tryz.prog 132 #[ptr s] w fun e w' => e = .returned (.tuple #[.int .i64 x, .int .i64 (x + 1), .bool false, .bool true]) ∧ ∃ p', IsSet w' s p' M F W C xs ms ys ns ∧ Mv (p.own s) (p'.own s) w w' := by
  obtain ⟨c0, c1, c2, c3, c4, c5, c6, cf⟩ := h.seven
  have hx := h.xin x List.mem_cons_self
  obtain ⟨mb, tb, _⟩ := h.look.tab
  have f0 := tb.f0
  have f1 := tb.f1
  have w1 := tb.w1
  have H := Lib.hid (sd_next_buf _ _ _ M F W C xs ms w x (by omega) (by omega) h.look)
  have K := Lib.hid (fun w' S' sd mv => h.lookT (w' := w') (S' := S') (us := xs) (ks := ms) sd mv (fun z hz => h.xin z (List.mem_cons_of_mem _ hz)))
  unfold sdV bfP tbP ptr fnV at *
  clear h c0 c1 c2 c5 c6 cf hx tb f0 f1 w1
  go_enter Tryz.func132, Tryz.ntmps132
  go_wp2_with fail
  refine H.out.mono ?_
  rintro e w1 ⟨rfl, S', sd, mv⟩
  have R := Lib.hid (K.out _ _ sd mv)
  clear sd mv K H
  go_wp2
  (try simp only [Exit.inBlock, Exit.then])
  refine bodyPost_ret (results_tmp4 rfl _ _ _) rfl ?_
  exact ⟨rfl, R.out⟩

set_option maxHeartbeats 2000000 in
theorem set_next_card (j : Nat) (h : IsSet w s p M F W C [] ms ys ns) (hj : ms[j]? = some true) (hn : ∀ i : Nat, i < j → ms[i]? = some false) :
    Calls Tryz.prog 132 #[ptr s] w fun e w' => e = .returned (.tuple #[.int .i64 (F + j * C), .int .i64 (endI F W C j), .bool true, .bool true]) ∧ ∃ p', IsSet w' s p' M F W C [] (ms.set j false) ys ns ∧ Mv (p.own s) (p'.own s) w w' := by
  obtain ⟨c0, c1, c2, c3, c4, c5, c6, cf⟩ := h.seven
  have H := Lib.hid (sd_next_card _ _ _ M F W C ms w j h.look hj hn)
  have K := Lib.hid (fun w' S' sd mv => h.lookT (w' := w') (S' := S') (us := []) (ks := ms.set j false) sd mv h.xin)
  unfold sdV bfP tbP ptr fnV at *
  clear h c0 c1 c2 c5 c6 cf hj hn
  go_enter Tryz.func132, Tryz.ntmps132
  go_wp2_with fail
  refine H.out.mono ?_
  rintro e w1 ⟨rfl, S', sd, mv⟩
  have R := Lib.hid (K.out _ _ sd mv)
  clear sd mv K H
  go_wp2
  (try simp only [Exit.inBlock, Exit.then])
  refine bodyPost_ret (results_tmp4 rfl _ _ _) rfl ?_
  exact ⟨rfl, R.out⟩

set_option maxHeartbeats 2000000 in
theorem set_next_none (h : IsSet w s p M F W C [] ms ys ns) (hn : ∀ i : Nat, ms[i]? ≠ some true) :
    Calls Tryz.prog 132 #[ptr s] w fun e w' => e = .returned (.tuple #[.int .i64 0, .int .i64 0, .bool false, .bool false]) ∧ Below w.heap.size w w' := by
  obtain ⟨c0, c1, c2, c3, c4, c5, c6, cf⟩ := h.seven
  have H := Lib.hid (sd_next_none _ _ _ M F W C ms w h.look hn)
  unfold sdV bfP tbP ptr fnV at *
  clear h c0 c1 c2 c5 c6 cf hn
  go_enter Tryz.func132, Tryz.ntmps132
  go_wp2_with fail
  refine H.out.mono ?_
  rintro e w1 ⟨rfl, b1⟩
  have B := Lib.hid b1
  clear b1 H
  go_wp2
  (try simp only [Exit.inBlock, Exit.then])
  refine bodyPost_ret (results_tmp4 rfl _ _ _) rfl ?_
  exact ⟨rfl, B.out⟩

set_option maxHeartbeats 2000000 in
theorem set_flip_no (h : IsSet w s p M F W C xs ms ys ns) (hn : 0 < xs.length + ms.count true) :
    Calls Tryz.prog 101 #[ptr s] w fun e w' => e = .returned (.bool false) ∧ Below w.heap.size w w' := by
  have H := Lib.hid (set_left s p M F W C xs ys ms ns w h)
  obtain ⟨n, en⟩ : ∃ n, xs.length + ms.count true = n := ⟨_, rfl⟩
  rw [en] at H hn
  have d : decide ((n : Int) > 0) = true := decide_eq_true (by omega)
  have d2 : decide (0 < (n : Int)) = true := decide_eq_true (by omega)
  clear h en
  unfold ptr at *
  go_enter Tryz.func101, Tryz.ntmps101
  go_wp2_with fail
  refine H.out.mono ?_
  rintro e w1 ⟨rfl, b1⟩
  have B := Lib.hid b1
  clear b1 H
  go_wp2
  go_ret
  exact ⟨rfl, B.out⟩

set_option maxHeartbeats 8000000 in
theorem set_flip_yes (h : IsSet w s p M F W C [] ms ys ns) (hn : ms.count true = 0) :
    Calls Tryz.prog 101 #[ptr s] w fun e w' => e = .returned (.bool true) ∧ ∃ p', IsSet w' s p' M F W C ys ns [] (List.replicate (nmI W C) false) ∧ Mv (p.own s) (p'.own s) w w' := by
  have H := Lib.hid (set_left s p M F W C [] ys ms ns w h)
  rw [hn] at H
  have HH := Lib.hid h
  clear h hn
  unfold ptr at *
  go_enter Tryz.func101, Tryz.ntmps101
  go_wp2_with fail
  refine H.out.mono ?_
  rintro e w1 ⟨rfl, b1⟩
  have hd := HH.out.keep (below_trans b1 (below_drew w1))
  have H1 := Lib.hid hd
  have B1 := Lib.hid (below_trans b1 (below_drew w1))
  obtain ⟨c0, c1, c2, c3, c4, c5, c6, cf⟩ := (HH.out.keep b1).seven
  have HM := Lib.hid ((sd_make _ _ _ _ _ _ _ _ _ hd.caps).mono fun e w' ⟨b, t, he, fr, b2⟩ => (show ∃ b t, e = Ending.returned (sdV b t) ∧ Hid (Fresh w1.drew w' b t p.m p.f p.n p.c ∧ Below w1.drew.heap.size w1.drew w') ∧ Blk w' s #[.int .i64 p.X, .int .i64 p.Y, fnV p.k0 p.k1 p.k2 p.k3, bfP p.b1, tbP p.t1, bfP p.b2, tbP p.t2] 144 from
    ⟨b, t, he, Lib.hid ⟨fr, b2⟩, hd.blk.keep b2⟩))
  have hne := ne_fn
  have HT := Lib.hid (fun v2 b t (fr : Fresh w1.drew v2 b t p.m p.f p.n p.c) (b2 : Below w1.drew.heap.size w1.drew v2) (k : Blk v2 s #[.int .i64 p.X, .int .i64 p.Y, fnV p.k0 p.k1 p.k2 p.k3, bfP p.b1, tbP p.t1, bfP p.b2, tbP p.t2] 144) =>
    (show ∃ p', IsSet ((((v2.setCell ⟨s, 3, none⟩ (bfP p.b2)).setCell ⟨s, 4, none⟩ (tbP p.t2)).setCell ⟨s, 5, none⟩ (bfP b)).setCell ⟨s, 6, none⟩ (tbP t)) s p' M F W C ys ns [] (List.replicate (nmI W C) false) ∧ Mv (p.own s) (p'.own s) w ((((v2.setCell ⟨s, 3, none⟩ (bfP p.b2)).setCell ⟨s, 4, none⟩ (tbP p.t2)).setCell ⟨s, 5, none⟩ (bfP b)).setCell ⟨s, 6, none⟩ (tbP t)) from by
      obtain ⟨p', hp, mv⟩ := H1.out.turn b2 fr ((((k.set_ 3 (bfP p.b2)).set_ 4 (tbP p.t2)).set_ 5 (bfP b)).set_ 6 (tbP t)) (Frm.setCell (S := (· = s)) (Frm.setCell (S := (· = s)) (Frm.setCell (S := (· = s)) (Frm.setCell (S := (· = s)) (Frm.refl _ v2) (p := ⟨s, 3, none⟩) (fun _ => rfl) _) (p := ⟨s, 4, none⟩) (fun _ => rfl) _) (p := ⟨s, 5, none⟩) (fun _ => rfl) _) (p := ⟨s, 6, none⟩) (fun _ => rfl) _)
      exact ⟨p', hp, mv.pre B1.out⟩))
  have lt0 := hd.blk.lt
  clear b1 hd H HH c0 c1 B1
  unfold fnV bfP tbP ptr sdV at *
  go_wp2_with fail
  go_region_with (go_at_call 142; refine HM.out.mono ?_; rintro e v2 ⟨b, t, rfl, FR, k⟩; have q3 := k.cell 3; have q4 := k.cell 4; have q5 := k.cell 5; have q6 := k.cell 6; have qf := k.frozen; have KK := Lib.hid k; clear k)
  all_goals
    go_wp2
    go_ret
    exact ⟨rfl, HT.out _ _ _ FR.out.1 FR.out.2 KK.out⟩
end
end Go.Proofs.YthmhehehomieiaaGreat

/- The program's New, and all calls of none; a set made since some world, with blocks beside it. -/
namespace Go.Proofs.YthmhehehomieiaaGreat
open Go.RowKit

section
variable (w : World)

set_option maxHeartbeats 2000000 in
theorem space_any (f n : Int) :
    Calls Tryz.prog 109 #[.int .i64 f, .int .i64 n] w fun e w' => ∃ X Y, e = .returned (.tuple #[.int .i64 X, .int .i64 Y]) ∧ (∀ x, (X ≤ x ∧ x < Y) ↔ (cutI f 0 1048576 ≤ x ∧ x < cutI f 0 1048576 + cutI n 0 1048576)) ∧ Below w.heap.size w w' := by
  have HN := Lib.hid (cNew_any f n 1048576 w)
  have iN := cutI_in (n := n) (l := 0) (m := 1048576) (by omega)
  go_enter Tryz.func109, Tryz.ntmps109
  go_wp2_with fail
  refine HN.out.mono ?_
  rintro e w1 ⟨b, mb, rfl, g1, g2, ⟨N, hN, tb⟩, b1⟩
  have ec : cutI 1048576 1 1048576 = 1048576 := by decide
  rw [ec] at hN tb
  have B := Lib.hid b1
  have HT := Lib.hid tb
  clear b1 tb HN ec
  unfold tbP
  by_cases hz : cutI n 0 1048576 = 0
  · have e0 : N = 0 := by rw [hz] at hN; omega
    subst e0
    have HP := Lib.hid (cPart_no b mb _ _ _ _ _ 0 HT.out (.inr (by simp)))
    have HZ := Lib.hid hz
    clear HT hz hN
    go_wp2_with fail
    refine HP.out.mono ?_
    rintro e w2 ⟨rfl, rfl⟩
    clear HP
    go_wp2
    go_ret2
    exact ⟨_, _, rfl, fun x => by rw [HZ.out]; omega, B.out⟩
  · have e1 : N = 1 := by omega
    subst e1
    have HP := Lib.hid (cPart_yes b mb _ _ _ _ _ 0 HT.out (by omega) (by simp))
    have HE : Hid (endI (cutI f 0 1048576) (cutI n 0 1048576) 1048576 0 = cutI f 0 1048576 + cutI n 0 1048576) := Lib.hid (by unfold endI; split <;> omega)
    clear HT hz hN
    go_wp2_with fail
    refine HP.out.mono ?_
    rintro e w2 ⟨rfl, b2⟩
    have B2 := Lib.hid (below_trans B.out b2)
    clear HP b2 B
    go_wp2
    go_ret2
    exact ⟨_, _, rfl, fun x => by rw [HE.out] <;> omega, B2.out⟩

set_option maxHeartbeats 2000000 in
theorem maker_any (f n c m : Int) :
    Calls Tryz.prog 110 #[.int .i64 f, .int .i64 n, .int .i64 c, .int .i64 m] w fun e w' => e = .returned (fnV (w.heap.size + 3) w.heap.size (w.heap.size + 1) (w.heap.size + 2)) ∧ Caps w' (w.heap.size + 3) w.heap.size (w.heap.size + 1) (w.heap.size + 2) m f n c ∧ Below w.heap.size w w' := by
  have hmf : ∀ (fn : Fn) (first cap : Array Value) (w : World), (Instr.makeFunc fn first cap).run Tryz.prog w = .ok (.func fn first cap) w := fun _ _ _ _ => rfl
  have HC := Lib.hid (show Caps ((((w.alloc (.cells #[.int .i64 f] 3)).alloc (.cells #[.int .i64 n] 3)).alloc (.cells #[.int .i64 c] 3)).alloc (.cells #[.int .i64 m] 3)) (w.heap.size + 3) w.heap.size (w.heap.size + 1) (w.heap.size + 2) m f n c from
    ⟨by simpa using Blk.new (((w.alloc (.cells #[.int .i64 f] 3)).alloc (.cells #[.int .i64 n] 3)).alloc (.cells #[.int .i64 c] 3)) #[.int .i64 m] 3,
     (((Blk.new w #[.int .i64 f] 3).alloc _).alloc _).alloc _,
     by simpa using ((Blk.new (w.alloc (.cells #[.int .i64 f] 3)) #[.int .i64 n] 3).alloc (.cells #[.int .i64 c] 3)).alloc (.cells #[.int .i64 m] 3),
     by simpa using (Blk.new ((w.alloc (.cells #[.int .i64 f] 3)).alloc (.cells #[.int .i64 n] 3)) #[.int .i64 c] 3).alloc (.cells #[.int .i64 m] 3)⟩)
  go_enter Tryz.func110, Tryz.ntmps110
  go_wp2
  go_ret
  exact ⟨rfl, HC.out, ((((Below.refl _ _).alloc (Nat.le_refl _) _).alloc (by simp) _).alloc (by simp; omega) _).alloc (by simp; omega) _⟩

set_option maxHeartbeats 4000000 in
theorem set_new (f n c m : Int) :
    Calls Tryz.prog 65 #[.int .i64 f, .int .i64 n, .int .i64 c, .int .i64 m] w fun e w' => ∃ s p, e = .returned (ptr s) ∧
      IsSet w' s p (cutI m 0 1048576) (cutI f 0 1048576) (cutI n 0 1048576) (cutI c 1 1048576) [] (List.replicate (nmI (cutI n 0 1048576) (cutI c 1 1048576)) false) [] (List.replicate (nmI (cutI n 0 1048576) (cutI c 1 1048576)) false) ∧ Below w.heap.size w w' ∧ ∀ k, p.own s k → w.heap.size ≤ k := by
  have HS := Lib.hid (space_any w f n)
  go_enter Tryz.func65, Tryz.ntmps65
  go_wp2_with fail
  refine HS.out.mono ?_
  rintro e w1 ⟨X, Y, rfl, hin, b1⟩
  have IN := Lib.hid hin
  have B1 := Lib.hid b1
  clear HS hin b1
  go_wp2_with fail
  refine (maker_any w1 f n c m).mono ?_
  rintro e w2 ⟨rfl, cp, b2⟩
  obtain ⟨k0, e0⟩ : ∃ k, w1.heap.size + 3 = k := ⟨_, rfl⟩
  obtain ⟨k1, e1⟩ : ∃ k, w1.heap.size = k := ⟨_, rfl⟩
  obtain ⟨k2, e2⟩ : ∃ k, w1.heap.size + 1 = k := ⟨_, rfl⟩
  obtain ⟨k3, e3⟩ : ∃ k, w1.heap.size + 2 = k := ⟨_, rfl⟩
  have LK : Hid (w.heap.size ≤ k0 ∧ w.heap.size ≤ k1 ∧ w.heap.size ≤ k2 ∧ w.heap.size ≤ k3) := Lib.hid (by have := B1.out.size; omega)
  rw [e0, e2, e3] at cp ⊢
  rw [e1] at cp ⊢
  have CP := Lib.hid cp
  have L2 := Lib.hid (And.intro cp.b0.lt (And.intro cp.b1.lt (And.intro cp.b2.lt cp.b3.lt)))
  have B2 := Lib.hid (below_trans B1.out b2)
  clear cp b2 B1 e0 e1 e2 e3
  unfold fnV ptr
  go_wp2_with fail
  refine (sd_make _ _ _ _ _ _ _ _ _ CP.out).mono ?_
  rintro e w3 ⟨u1, t1, rfl, f1, b3⟩
  have CP := Lib.hid (CP.out.keep b3)
  have F1 := Lib.hid f1
  have B3 := Lib.hid b3
  clear f1 b3
  unfold sdV bfP tbP
  go_wp2_with fail
  refine (sd_make _ _ _ _ _ _ _ _ _ CP.out).mono ?_
  rintro e w4 ⟨u2, t2, rfl, f2, b4⟩
  have CP := Lib.hid (CP.out.keep b4)
  have F2 := Lib.hid f2
  have B4 := Lib.hid b4
  clear f2 b4
  unfold sdV bfP tbP
  go_wp2
  go_ret
  have s2 := B2.out.size
  have s3 := B3.out.size
  have s4 := B4.out.size
  have ba : Below w4.heap.size w4 (w4.alloc (.cells #[.int .i64 X, .int .i64 Y, fnV k0 k1 k2 k3, bfP u1, tbP t1, bfP u2, tbP t2] 144)) := (Below.refl _ _).alloc (Nat.le_refl _) _
  have lk := LK.out
  have l0 := CP.out.b0.lt
  have l1 := CP.out.b1.lt
  have l2 := CP.out.b2.lt
  have l3 := CP.out.b3.lt
  have g1 : Fresh w2 w3 u1 t1 m f n c := F1.out
  have g2 : Fresh w3 w4 u2 t2 m f n c := F2.out
  unfold Fresh at g1 g2
  refine ⟨w4.heap.size, { X := X, Y := Y, m := m, f := f, n := n, c := c, k0 := k0, k1 := k1, k2 := k2, k3 := k3, b1 := u1, t1 := t1, b2 := u2, t2 := t2, S1 := fun k => w2.heap.size ≤ k ∧ k < w3.heap.size, S2 := fun k => w3.heap.size ≤ k ∧ k < w4.heap.size }, rfl, ⟨Blk.new _ _ _, CP.out.keep ba, rfl, rfl, rfl, rfl, IN.out, ?_, ?_, ?_, ?_, ?_, ?_⟩, ?_, ?_⟩
  · exact (g1.keep B4.out).keep ba
  · exact g2.keep ba
  · rintro k ⟨_, h1⟩ ⟨h2, _⟩
    omega
  · have e2 := L2.out
    rintro k (⟨h1, h2⟩ | ⟨h1, h2⟩)
    · exact ⟨fun z => by omega, fun z => by simp only at z; omega, fun z => by simp only at z; omega, fun z => by simp only at z; omega, fun z => by simp only at z; omega⟩
    · exact ⟨fun z => by omega, fun z => by simp only at z; omega, fun z => by simp only at z; omega, fun z => by simp only at z; omega, fun z => by simp only at z; omega⟩
  · intro x hx; cases hx
  · intro x hx; cases hx
  · exact below_trans (below_trans (below_trans B2.out B3.out) B4.out) ba
  · rintro k (e | e | e | e | e | ⟨e, _⟩ | ⟨e, _⟩)
    · omega
    · simp only at e; omega
    · simp only at e; omega
    · simp only at e; omega
    · simp only at e; omega
    · omega
    · omega
end
end Go.Proofs.YthmhehehomieiaaGreat

/- Blocks that a call leaves as they were; of no program's own. -/
namespace Go.Proofs.YthmhehehomieiaaGreat
open Go.RowKit

/-- Blocks of Z are as they were. -/
def Kp (Z : Nat → Prop) (w w' : World) : Prop := Frm (fun k => ¬ Z k) w w'

theorem Kp.of_below {Z : Nat → Prop} {w w' : World} (h : Below w.heap.size w w') : Kp Z w w' := Frm.of_below h
theorem Kp.trans {Z : Nat → Prop} {a b c : World} (h : Kp Z a b) (k : Kp Z b c) : Kp Z a c := Frm.trans h k fun _ _ e => e
theorem Blk.kp {Z : Nat → Prop} {w w' : World} {b : Nat} {cs : Array Value} {t : TypeId} (h : Blk w b cs t) (k : Kp Z w w') (hz : Z b) : Blk w' b cs t := h.frm k fun e => e hz
theorem Qu.kp {Z : Nat → Prop} {w w' : World} {A : Option Addr} {n c : Nat} {xs : List Int} (h : Qu w A n c xs) (k : Kp Z w w') (hz : ∀ k, blkOf A = some k → Z k) : Qu w' A n c xs := h.frm k fun j hj e => e (hz j hj)
/-- Nothing is beside it. -/
abbrev noZ : Nat → Prop := fun _ => False
end Go.Proofs.YthmhehehomieiaaGreat

/- A set made since some world, with blocks beside it that it leaves; all calls of none; awake, RemsetNone. -/
namespace Go.Proofs.YthmhehehomieiaaGreat
open Go.RowKit

/-- Block s is a set made since w0; no block of Z is its own; what there was is as it was. -/
structure Rz (w0 w : World) (Z : Nat → Prop) (s : Nat) (M F W C : Int) (xs : List Int) (ms : List Bool) (ys : List Int) (ns : List Bool) : Prop where
  is : ∃ p, IsSet w s p M F W C xs ms ys ns ∧ ∀ k, p.own s k → w0.heap.size ≤ k ∧ ¬ Z k
  bel : Below w0.heap.size w0 w
  low : ∀ k, Z k → w0.heap.size ≤ k ∧ k < w.heap.size

section
variable {w0 w w' : World} {Z Z' : Nat → Prop} {s : Nat} {M F W C : Int} {xs ys : List Int} {ms ns : List Bool}

theorem Rz.keep (h : Rz w0 w Z s M F W C xs ms ys ns) (f : Below w.heap.size w w') : Rz w0 w' Z s M F W C xs ms ys ns := by
  obtain ⟨p, hp, ho⟩ := h.is
  exact ⟨⟨p, hp.keep f, ho⟩, below_trans h.bel f, fun k hk => ⟨(h.low k hk).1, Nat.lt_of_lt_of_le (h.low k hk).2 f.size⟩⟩

/-- New blocks are beside it. -/
theorem Rz.grow (h : Rz w0 w Z s M F W C xs ms ys ns) (f : Below w.heap.size w w') (hz : ∀ k, Z' k → Z k ∨ (w.heap.size ≤ k ∧ k < w'.heap.size)) : Rz w0 w' Z' s M F W C xs ms ys ns := by
  obtain ⟨p, hp, ho⟩ := h.is
  refine ⟨⟨p, hp.keep f, fun k hk => ⟨(ho k hk).1, fun e => ?_⟩⟩, below_trans h.bel f, fun k hk => ?_⟩
  · rcases hz k e with e | e
    · exact (ho k hk).2 e
    · have := hp.lt hk; omega
  · rcases hz k hk with e | e
    · exact ⟨(h.low k e).1, Nat.lt_of_lt_of_le (h.low k e).2 f.size⟩
    · exact ⟨Nat.le_trans h.bel.size e.1, e.2⟩

/-- What is beside it has been written to. -/
theorem Rz.write {S : Nat → Prop} (h : Rz w0 w Z s M F W C xs ms ys ns) (f : Frm S w w') (hs : ∀ k, k < w.heap.size → S k → Z k) (hz : ∀ k, Z' k → Z k ∨ (w.heap.size ≤ k ∧ k < w'.heap.size)) : Rz w0 w' Z' s M F W C xs ms ys ns := by
  obtain ⟨p, hp, ho⟩ := h.is
  refine ⟨⟨p, hp.frm f fun k hk e => (ho k hk).2 (hs k (hp.lt hk) e), fun k hk => ⟨(ho k hk).1, fun e => ?_⟩⟩, Below.frm h.bel f h.bel.size (fun k hk e => ?_), fun k hk => ?_⟩
  · rcases hz k e with e | e
    · exact (ho k hk).2 e
    · have := hp.lt hk; omega
  · have := (h.low k (hs k (Nat.lt_of_lt_of_le hk h.bel.size) e)).1; omega
  · rcases hz k hk with e | e
    · exact ⟨(h.low k e).1, Nat.lt_of_lt_of_le (h.low k e).2 f.size⟩
    · exact ⟨Nat.le_trans h.bel.size e.1, e.2⟩

theorem Rz.step {us vs : List Int} {ks js : List Bool} {p : Pt} (_ : IsSet w s p M F W C xs ms ys ns) (ho : ∀ k, p.own s k → w0.heap.size ≤ k ∧ ¬ Z k) (bel : Below w0.heap.size w0 w) (low : ∀ k, Z k → w0.heap.size ≤ k ∧ k < w.heap.size)
    (h' : ∃ p', IsSet w' s p' M F W C us ks vs js ∧ Mv (p.own s) (p'.own s) w w') : Rz w0 w' Z s M F W C us ks vs js ∧ Kp Z w w' := by
  obtain ⟨p', hp', mv⟩ := h'
  refine ⟨⟨⟨p', hp', fun k hk => ?_⟩, Below.frm bel mv.frm bel.size (fun k hk e => by have := (ho k e).1; omega), fun k hk => ⟨(low k hk).1, Nat.lt_of_lt_of_le (low k hk).2 mv.frm.size⟩⟩, mv.frm.mono fun i _ e => (ho i e).2⟩
  rcases mv.at_ k hk with e | e
  · exact ho k e
  · exact ⟨Nat.le_trans bel.size e, fun z => by have := (low k z).2; omega⟩

/-- What is told of a set's numbers. -/
theorem Rz.facts (h : Rz w0 w Z s M F W C xs ms ys ns) : (0 ≤ F ∧ F ≤ 1048576 ∧ 0 ≤ W ∧ W ≤ 1048576 ∧ 1 ≤ C ∧ C ≤ 1048576 ∧ 0 ≤ M ∧ M ≤ 1048576) ∧ ((ms.length : Int) = (W + C - 1) / C ∧ (ns.length : Int) = (W + C - 1) / C) ∧ ((xs.length : Int) ≤ M ∧ (ys.length : Int) ≤ M) := by
  obtain ⟨p, hp, ho⟩ := h.is
  obtain ⟨mb, tb, _⟩ := hp.look.tab
  obtain ⟨mb2, tb2, _⟩ := hp.rest.tab
  obtain ⟨A, c, bf, _⟩ := hp.look.buf
  exact ⟨⟨tb.f0, tb.f1, tb.w0, tb.w1, tb.c0, tb.c1, bf.m0, bf.m1⟩, ⟨tb.len, tb2.len⟩, hp.look.room, hp.rest.room⟩
theorem Rz.xin (h : Rz w0 w Z s M F W C xs ms ys ns) : ∀ x ∈ xs, F ≤ x ∧ x < F + W := by obtain ⟨p, hp, ho⟩ := h.is; exact hp.xin
theorem Rz.yin (h : Rz w0 w Z s M F W C xs ms ys ns) : ∀ x ∈ ys, F ≤ x ∧ x < F + W := by obtain ⟨p, hp, ho⟩ := h.is; exact hp.yin

/-- A place's card. -/
theorem Rz.at_ (h : Rz w0 w Z s M F W C xs ms ys ns) {x : Int} (x0 : F ≤ x) (x1 : x < F + W) : 0 ≤ (x - F) / C ∧ (x - F) / C < ns.length := by
  obtain ⟨p, hp, ho⟩ := h.is
  obtain ⟨mb2, tb2, _⟩ := hp.rest.tab
  exact tb2.at_ x0 x1
/-- A card's place. -/
theorem Rz.part (h : Rz w0 w Z s M F W C xs ms ys ns) {n : Int} (n0 : 0 ≤ n) (n1 : n < ms.length) : 0 ≤ n * C ∧ n * C < W := by
  obtain ⟨p, hp, ho⟩ := h.is
  obtain ⟨mb, tb, _⟩ := hp.look.tab
  exact tb.part n0 n1

theorem rz_new (f n c m : Int) (bel : Below w0.heap.size w0 w) (low : ∀ k, Z k → w0.heap.size ≤ k ∧ k < w.heap.size) :
    Calls Tryz.prog 65 #[.int .i64 f, .int .i64 n, .int .i64 c, .int .i64 m] w fun e w' => ∃ s, e = .returned (ptr s) ∧
      Rz w0 w' Z s (cutI m 0 1048576) (cutI f 0 1048576) (cutI n 0 1048576) (cutI c 1 1048576) [] (List.replicate (nmI (cutI n 0 1048576) (cutI c 1 1048576)) false) [] (List.replicate (nmI (cutI n 0 1048576) (cutI c 1 1048576)) false) ∧ Kp Z w w' :=
  (set_new w f n c m).mono fun e w' ⟨s, p, he, hp, b, hk⟩ => ⟨s, he, ⟨⟨p, hp, fun k hk' => ⟨Nat.le_trans bel.size (hk k hk'), fun z => by have := (low k z).2; have := hk k hk'; omega⟩⟩, below_trans bel b, fun k hk => ⟨(low k hk).1, Nat.lt_of_lt_of_le (low k hk).2 b.size⟩⟩, Kp.of_below b⟩

theorem rz_left (h : Rz w0 w Z s M F W C xs ms ys ns) :
    Calls Tryz.prog 138 #[ptr s] w fun e w' => e = .returned (.int .i64 (xs.length + ms.count true : Nat)) ∧ Rz w0 w' Z s M F W C xs ms ys ns ∧ Kp Z w w' := by
  obtain ⟨p, hp, ho⟩ := h.is
  exact (set_left s p M F W C xs ys ms ns w hp).mono fun e w' ⟨he, b⟩ => ⟨he, h.keep b, Kp.of_below b⟩

theorem rz_len (h : Rz w0 w Z s M F W C xs ms ys ns) :
    Calls Tryz.prog 39 #[ptr s] w fun e w' => e = .returned (.int .i64 (ys.length + ns.count true : Nat)) ∧ Rz w0 w' Z s M F W C xs ms ys ns ∧ Kp Z w w' := by
  obtain ⟨p, hp, ho⟩ := h.is
  exact (set_len s p M F W C xs ys ms ns w hp).mono fun e w' ⟨he, b⟩ => ⟨he, h.keep b, Kp.of_below b⟩

theorem rz_add_no (x : Int) (h : Rz w0 w Z s M F W C xs ms ys ns) (hx : ¬ (F ≤ x ∧ x < F + W)) :
    Calls Tryz.prog 79 #[ptr s, .int .i64 x] w fun e w' => e = .returned (.bool false) ∧ w = w' := by
  obtain ⟨p, hp, ho⟩ := h.is
  exact set_add_no s p M F W C xs ys ms ns w x hp hx

theorem rz_add_put (x : Int) (h : Rz w0 w Z s M F W C xs ms ys ns) (x0 : F ≤ x) (x1 : x < F + W) (hn : (ys.length : Int) < M) :
    Calls Tryz.prog 79 #[ptr s, .int .i64 x] w fun e w' => e = .returned (.bool true) ∧ Rz w0 w' Z s M F W C xs ms (ys ++ [x]) ns ∧ Kp Z w w' := by
  obtain ⟨p, hp, ho⟩ := h.is
  exact (set_add_put s p M F W C xs ys ms ns w x hp x0 x1 hn).mono fun e w' ⟨he, h'⟩ => ⟨he, Rz.step hp ho h.bel h.low h'⟩

theorem rz_add_mark (x : Int) (j : Nat) (h : Rz w0 w Z s M F W C xs ms ys ns) (x0 : F ≤ x) (x1 : x < F + W) (hn : M ≤ ys.length) (hj : (x - F) / C = j) :
    Calls Tryz.prog 79 #[ptr s, .int .i64 x] w fun e w' => e = .returned (.bool true) ∧ Rz w0 w' Z s M F W C xs ms ys (ns.set j true) ∧ Kp Z w w' := by
  obtain ⟨p, hp, ho⟩ := h.is
  exact (set_add_mark s p M F W C xs ys ms ns w x j hp x0 x1 hn hj).mono fun e w' ⟨he, h'⟩ => ⟨he, Rz.step hp ho h.bel h.low h'⟩

theorem rz_flip_no (h : Rz w0 w Z s M F W C xs ms ys ns) (hn : 0 < xs.length + ms.count true) :
    Calls Tryz.prog 101 #[ptr s] w fun e w' => e = .returned (.bool false) ∧ Rz w0 w' Z s M F W C xs ms ys ns ∧ Kp Z w w' := by
  obtain ⟨p, hp, ho⟩ := h.is
  exact (set_flip_no s p M F W C xs ys ms ns w hp hn).mono fun e w' ⟨he, b⟩ => ⟨he, h.keep b, Kp.of_below b⟩

theorem rz_flip_yes (h : Rz w0 w Z s M F W C xs ms ys ns) (hn : xs.length + ms.count true = 0) :
    Calls Tryz.prog 101 #[ptr s] w fun e w' => e = .returned (.bool true) ∧ Rz w0 w' Z s M F W C ys ns [] (List.replicate (nmI W C) false) ∧ Kp Z w w' := by
  obtain ⟨p, hp, ho⟩ := h.is
  obtain rfl : xs = [] := List.eq_nil_of_length_eq_zero (by omega)
  exact (set_flip_yes s p M F W C ys ms ns w hp (by omega)).mono fun e w' ⟨he, h'⟩ => ⟨he, Rz.step hp ho h.bel h.low h'⟩

theorem rz_next_buf (x : Int) (h : Rz w0 w Z s M F W C (x :: xs) ms ys ns) :
    Calls Tryz.prog 132 #[ptr s] w fun e w' => e = .returned (.tuple #[.int .i64 x, .int .i64 (x + 1), .bool false, .bool true]) ∧ Rz w0 w' Z s M F W C xs ms ys ns ∧ Kp Z w w' := by
  obtain ⟨p, hp, ho⟩ := h.is
  exact (set_next_buf s p M F W C xs ys ms ns w x hp).mono fun e w' ⟨he, h'⟩ => ⟨he, Rz.step hp ho h.bel h.low h'⟩

theorem rz_next_card (j : Nat) (h : Rz w0 w Z s M F W C [] ms ys ns) (hj : ms[j]? = some true) (hn : ∀ i : Nat, i < j → ms[i]? = some false) :
    Calls Tryz.prog 132 #[ptr s] w fun e w' => e = .returned (.tuple #[.int .i64 (F + j * C), .int .i64 (endI F W C j), .bool true, .bool true]) ∧ Rz w0 w' Z s M F W C [] (ms.set j false) ys ns ∧ Kp Z w w' := by
  obtain ⟨p, hp, ho⟩ := h.is
  exact (set_next_card s p M F W C ys ms ns w j hp hj hn).mono fun e w' ⟨he, h'⟩ => ⟨he, Rz.step hp ho h.bel h.low h'⟩

theorem rz_next_none (h : Rz w0 w Z s M F W C xs ms ys ns) (hn : xs.length + ms.count true = 0) :
    Calls Tryz.prog 132 #[ptr s] w fun e w' => e = .returned (.tuple #[.int .i64 0, .int .i64 0, .bool false, .bool false]) ∧ Rz w0 w' Z s M F W C xs ms ys ns ∧ Kp Z w w' := by
  obtain ⟨p, hp, ho⟩ := h.is
  obtain rfl : xs = [] := List.eq_nil_of_length_eq_zero (by omega)
  have h0 : ∀ i : Nat, ms[i]? ≠ some true := fun i e => by
    have := List.count_eq_zero.1 (show ms.count true = 0 by omega)
    exact this (List.mem_of_getElem? e)
  exact (set_next_none s p M F W C ys ms ns w hp h0).mono fun e w' ⟨he, b⟩ => ⟨he, h.keep b, Kp.of_below b⟩
end

/-- The first that is set. -/
theorem first_true {ms : List Bool} (h : 0 < ms.count true) : ∃ j : Nat, j < ms.length ∧ ms[j]? = some true ∧ ∀ i : Nat, i < j → ms[i]? = some false := by
  induction ms with
  | nil => simp at h
  | cons x ms ih =>
    cases x
    · obtain ⟨j, hl, hj, hn⟩ := ih (by simpa using h)
      refine ⟨j + 1, by simp; omega, by simpa using hj, fun i hi => ?_⟩
      cases i with
      | zero => rfl
      | succ i => simpa using hn i (by omega)
    · exact ⟨0, by simp, rfl, fun i hi => by omega⟩

section
variable (w : World)
set_option maxHeartbeats 1000000 in
theorem left_nil : Calls Tryz.prog 138 #[.pointer none] w fun e w' => e = .returned (.int .i64 0) ∧ w = w' := by
  go_enter Tryz.func138, Tryz.ntmps138
  go_wp2
  go_ret
  exact ⟨rfl, rfl⟩
set_option maxHeartbeats 1000000 in
theorem rLen_nil : Calls Tryz.prog 39 #[.pointer none] w fun e w' => e = .returned (.int .i64 0) ∧ w = w' := by
  go_enter Tryz.func39, Tryz.ntmps39
  go_wp2
  go_ret
  exact ⟨rfl, rfl⟩
set_option maxHeartbeats 1000000 in
theorem add_nil (x : Int) : Calls Tryz.prog 79 #[.pointer none, .int .i64 x] w fun e w' => e = .returned (.bool false) ∧ w = w' := by
  go_enter Tryz.func79, Tryz.ntmps79
  go_wp2
  go_ret
  exact ⟨rfl, rfl⟩
set_option maxHeartbeats 1000000 in
theorem flip_nil : Calls Tryz.prog 101 #[.pointer none] w fun e w' => e = .returned (.bool false) ∧ w = w' := by
  go_enter Tryz.func101, Tryz.ntmps101
  go_wp2
  go_ret
  exact ⟨rfl, rfl⟩
set_option maxHeartbeats 1000000 in
theorem next_nil : Calls Tryz.prog 132 #[.pointer none] w fun e w' => e = .returned (.tuple #[.int .i64 0, .int .i64 0, .bool false, .bool false]) ∧ w = w' := by
  go_enter Tryz.func132, Tryz.ntmps132
  go_wp2
  (try simp only [Exit.inBlock, Exit.then])
  refine bodyPost_ret (results_tmp4 rfl _ _ _) rfl ?_
  exact ⟨rfl, rfl⟩
end

end Go.Proofs.YthmhehehomieiaaGreat

/- A slice of ints that lies anywhere in a block of its own: cut at its end, copied behind a new one; of no program's own functions. -/
namespace Go.Proofs.YthmhehehomieiaaGreat
open Go.RowKit

section
variable {w : World} {A : Option Addr} {n c : Nat} {xs : List Int}

/-- Its end cut off. -/
theorem Qu.upto (h : Qu w A n c xs) {m : Nat} (hm : m ≤ n) : Qu w A m c (xs.take m) := by
  refine ⟨by rw [List.length_take, h.len]; omega, Nat.le_trans hm h.le, h.max, h.lies.imp id ?_⟩
  rintro ⟨g, off, cs, rfl, hb, hs, hx⟩
  refine ⟨g, off, cs, rfl, hb, hs, fun i x hi => hx i x ?_⟩
  rw [List.getElem?_take] at hi
  split at hi
  · exact hi
  · cases hi

theorem Qu.but {x : Int} (h : Qu w A (n + 1) c (xs ++ [x])) : Qu w A n c xs := by
  have hl : xs.length = n := by have := h.len; simp at this; exact this
  have q := h.upto (m := n) (by omega)
  rwa [List.take_left' hl] at q

theorem Qu.none_ (h : Qu w A n c xs) : Qu w A 0 c [] := h.upto (m := 0) (Nat.zero_le _)

/-- All of it appended to a new slice without room: a copy. -/
theorem Qu.clone (h : Qu w A n c xs) (few : n ≤ 1048576) (g0 : Nat) (hg : Blk w g0 #[] 3) (ty : TypeId) :
    ∃ A' c' w', (Builtin.append_ #[39, 39] ty #[.slice (some ⟨g0, 0, none⟩) 0 0, .slice A n c]).run Tryz.prog w = .ok (.slice A' n c') w' ∧ Qu w' A' n c' xs ∧ Below w.heap.size w w' ∧ (∀ k, blkOf A' = some k → k = g0 ∨ w.heap.size ≤ k) := by
  obtain ⟨i0, hi, hz, hs, hby⟩ := info_parts info_int
  by_cases hn : n = 0
  · subst hn
    have hx0 : xs = [] := List.eq_nil_of_length_eq_zero h.len
    subst hx0
    refine ⟨some ⟨g0, 0, none⟩, 0, w, ?_, ⟨rfl, Nat.le_refl _, Nat.zero_le _, .inr ⟨g0, 0, #[], rfl, hg, Nat.le_refl _, fun i x hx => by simp at hx⟩⟩, Below.refl _ _, fun k hk => by cases hk; exact .inl rfl⟩
    cases A <;> simp [Builtin.append_, run_underlying Tryz.underlying39, sizeOf, typeInfo, hi, Builtin.lenOf, Builtin.firstCells, storeCells, loadCells, loadCellsFrom]
  · rcases h.lies with ⟨rfl, rfl⟩ | ⟨g, off, cs, rfl, hb, hsz, hx⟩
    · exact absurd h.le (by omega)
    · have hnews : ∀ j u, (ints xs)[j]? = some u → w.cell? ((⟨g, off, none⟩ : Addr).add j) = some u := by
        intro j u hj
        rw [Addr.add_lit, hb.cell]
        rw [ints, List.getElem?_map] at hj
        cases e : xs[j]? with
        | none => rw [e] at hj; cases hj
        | some y => rw [e] at hj; cases hj; exact hx j y e
      obtain ⟨v', w', hrun, r1, r2⟩ := run_append_arg_grows (P := Tryz.prog) w 39 ty 3 i0 (.int .i64 0) 1 8 Tryz.underlying39 hi hz hs hby rfl (by decide) ⟨g0, 0, none⟩ 0 0 [] rfl
        (fun j u hj => by simp at hj) ⟨g, off, none⟩ n c (ints xs) (by rw [ints, List.length_map, h.len]; omega) hnews (by omega) (by unfold maxLen; omega) (by omega)
      rw [Nat.zero_add, List.nil_append] at r1
      obtain ⟨g', cap, rfl, hB, q⟩ := Qu.of_own hn r1
      exact ⟨_, _, w', hrun, q, below_none r2, fun k hk => by cases hk; exact .inr hB⟩
end

theorem wpList_clone_qu (w : World) {ops : Array Oper} {rest : List Oper} {o : Oper} {a : Act} {Q : Exit → Act → World → Prop} (hgd : o.guard = none) (s x : Operand)
    (ho : o.op = .call { callee := .builtin .append, args := #[s, x], argTypes := #[39, 39] }) {A : Option Addr} {n c : Nat} {xs : List Int} (h : Qu w A n c xs) (few : n ≤ 1048576) (g0 : Nat) (hg : Blk w g0 #[] 3)
    (hs : a.eval s = .slice (some ⟨g0, 0, none⟩) 0 0) (hx : a.eval x = .slice A n c)
    (hK : ∀ A' c' w', Qu w' A' n c' xs → Below w.heap.size w w' → (∀ k, blkOf A' = some k → k = g0 ∨ w.heap.size ≤ k) → wpList Tryz.prog ops Q rest (a.put o.dst (.slice A' n c')) w') : wpList Tryz.prog ops Q (o :: rest) a w := by
  refine wpList_plain hgd fun K hK' => ?_
  obtain ⟨A', c', w', hrun, q, g, hf⟩ := h.clone few g0 hg o.type
  unfold Oper.wp execOp
  simp only [ho, resolve, invoke, builtin, Sem.run_bind, Sem.run_pure, Result.andThen_ok, List.map_toArray, List.map_cons, List.map_nil, hs, hx, hrun]
  exact hK' _ _ (hK A' c' w' q g hf)

/-- One of its numbers is written anew. -/
theorem Qu.put {w : World} {g off n c : Nat} {xs : List Int} (h : Qu w (some ⟨g, off, none⟩) n c xs) (i : Nat) (x : Int) : Qu (w.setCell ⟨g, off + i, none⟩ (.int .i64 x)) (some ⟨g, off, none⟩) n c (xs.set i x) := by
  refine ⟨by rw [List.length_set]; exact h.len, h.le, h.max, .inr ?_⟩
  rcases h.lies with ⟨e, _⟩ | ⟨g', off', cs, e, hb, hs, hx⟩
  · cases e
  · cases e
    refine ⟨g, off, _, rfl, hb.set_ (off + i) _, by simpa using hs, fun j y hy => ?_⟩
    rw [List.getElem?_set] at hy
    rw [Array.getElem?_setIfInBounds]
    split at hy
    · rename_i e
      subst e
      split at hy
      · rename_i hl
        cases hy
        have := h.len
        have := h.le
        rw [if_pos rfl, if_pos (by omega)]
      · cases hy
    · rw [if_neg (by omega)]
      exact hx j y hy
end Go.Proofs.YthmhehehomieiaaGreat

/- A stack in memory; contracts of the program's New, Len, Lost, Found, Pop, Push. -/
namespace Go.Proofs.YthmhehehomieiaaGreat
open Go.RowKit

/-- Block b is a stack with room for M, whose slice (A, n, c) holds xs; l: something is lost. -/
structure IsGr (w : World) (b : Nat) (M : Int) (l : Bool) (A : Option Addr) (n c : Nat) (xs : List Int) : Prop where
  blk : Blk w b #[.slice A n c, .int .i64 M, .bool l] 137
  row : Qu w A n c xs
  m0 : 0 ≤ M
  m1 : M ≤ 1048576
  few : (n : Int) ≤ M

abbrev grP (b : Nat) : Value := .pointer (some ⟨b, 0, none⟩)

/-- Only the stack has turned; its slice lies where it lay, or in a new block. -/
structure GrT (b : Nat) (A A' : Option Addr) (w w' : World) : Prop where
  frm : Frm (fun k => k = b ∨ blkOf A = some k) w w'
  at_ : ∀ k, blkOf A' = some k → blkOf A = some k ∨ w.heap.size ≤ k

theorem GrT.of_below {b : Nat} {A : Option Addr} {w w' : World} (h : Below w.heap.size w w') : GrT b A A w w' := ⟨Frm.of_below h, fun _ hk => .inl hk⟩
theorem GrT.trans {b : Nat} {A B C : Option Addr} {u v w : World} (h : GrT b A B u v) (k : GrT b B C v w) : GrT b A C u w :=
  ⟨h.frm.trans k.frm (fun i hi e => e.imp id fun e => (h.at_ i e).resolve_right (by omega)), fun i e => (k.at_ i e).elim (fun e => h.at_ i e) fun e => .inr (Nat.le_trans h.frm.size e)⟩

section
variable {w w' : World} {b : Nat} {M : Int} {l : Bool} {A : Option Addr} {n c : Nat} {xs : List Int}
theorem IsGr.ne (h : IsGr w b M l A n c xs) {k : Nat} (hk : blkOf A = some k) : b ≠ k := by
  rcases h.row.lies with ⟨rfl, _⟩ | ⟨g, off, cs, rfl, hb, _⟩
  · cases hk
  · cases hk
    exact Blk.ne_ h.blk hb (by decide)
theorem IsGr.lt (h : IsGr w b M l A n c xs) : b < w.heap.size := h.blk.lt
theorem IsGr.keep (h : IsGr w b M l A n c xs) (f : Below w.heap.size w w') : IsGr w' b M l A n c xs := { h with blk := h.blk.keep f, row := h.row.keep f }
theorem IsGr.frm {S : Nat → Prop} (h : IsGr w b M l A n c xs) (f : Frm S w w') (hb : ¬ S b) (hs : ∀ k, blkOf A = some k → ¬ S k) : IsGr w' b M l A n c xs := { h with blk := h.blk.frm f hb, row := h.row.frm f hs }
theorem IsGr.three (h : IsGr w b M l A n c xs) : w.cell? ⟨b, 0, none⟩ = some (.slice A n c) ∧ w.cell? ⟨b, 1, none⟩ = some (.int .i64 M) ∧ w.cell? ⟨b, 2, none⟩ = some (.bool l) ∧ (∀ i, w.frozen? ⟨b, i, none⟩ = false) := ⟨h.blk.cell 0, h.blk.cell 1, h.blk.cell 2, h.blk.frozen⟩

/-- A stack's slice is laid anew. -/
theorem IsGr.set {A' : Option Addr} {n' c' : Nat} {xs' : List Int} (h : IsGr w b M l A n c xs) (q : Qu w A' n' c' xs') (few : (n' : Int) ≤ M) :
    IsGr (w.setCell ⟨b, 0, none⟩ (.slice A' n' c')) b M l A' n' c' xs' :=
  ⟨h.blk.set_ 0 _, q.frm (S := fun k => k = b) (Frm.setCell (S := fun k => k = b) (Frm.refl _ _) (p := ⟨b, 0, none⟩) (fun _ => rfl) _) (fun k hk e => by
    subst e
    rcases q.lies with ⟨rfl, _⟩ | ⟨g, off, cs, rfl, hb, _⟩
    · cases hk
    · cases hk
      exact Blk.ne_ h.blk hb (by decide) rfl), h.m0, h.m1, few⟩

/-- Whether something is lost is said anew. -/
theorem IsGr.say (h : IsGr w b M l A n c xs) (l' : Bool) : IsGr (w.setCell ⟨b, 2, none⟩ (.bool l')) b M l' A n c xs :=
  ⟨h.blk.set_ 2 _, h.row.frm (S := fun k => k = b) (Frm.setCell (S := fun k => k = b) (Frm.refl _ _) (p := ⟨b, 2, none⟩) (fun _ => rfl) _) (fun _ hk e => h.ne hk e.symm), h.m0, h.m1, h.few⟩

theorem GrT.set (i : Nat) (u : Value) : GrT b A A w (w.setCell ⟨b, i, none⟩ u) := ⟨(Frm.refl _ _).setCell (fun _ => .inl rfl) _, fun _ hk => .inl hk⟩
end

set_option maxHeartbeats 1000000 in
theorem grNew_any (m : Int) (w : World) :
    Calls Tryz.prog 66 #[.int .i64 m] w fun e w' => e = .returned (grP w.heap.size) ∧ IsGr w' w.heap.size (cutI m 0 1048576) false none 0 0 [] ∧ Below w.heap.size w w' := by
  have key := Lib.hid (show ∀ K : Int, cutI m 0 1048576 = K → IsGr (w.alloc (.cells #[.slice none 0 0, .int .i64 K, .bool false] 137)) w.heap.size (cutI m 0 1048576) false none 0 0 [] from by
    rintro _ rfl
    exact ⟨Blk.new _ _ _, Qu.nil _, (cutI_in (by decide)).1, (cutI_in (by decide)).2, (cutI_in (by decide)).1⟩)
  go_enter Tryz.func66, Tryz.ntmps66
  go_wp2
  all_goals
    go_ret
    exact ⟨rfl, key.out _ (by unfold cutI; split <;> (try split) <;> omega), (Below.refl _ _).alloc (Nat.le_refl _) _⟩

section
variable (b : Nat) (M : Int) (l : Bool) (A : Option Addr) (n c : Nat) (xs : List Int) (x : Int) (w : World)

set_option maxHeartbeats 1000000 in
theorem grLen_any (h : IsGr w b M l A n c xs) :
    Calls Tryz.prog 38 #[grP b] w fun e w' => e = .returned (.int .i64 n) ∧ w = w' := by
  obtain ⟨c0, c1, c2, cf⟩ := h.three
  clear h c1 c2 cf
  go_enter Tryz.func38, Tryz.ntmps38
  go_wp2
  go_ret
  exact ⟨rfl, rfl⟩

set_option maxHeartbeats 1000000 in
theorem grLen_nil : Calls Tryz.prog 38 #[.pointer none] w fun e w' => e = .returned (.int .i64 0) ∧ w = w' := by
  go_enter Tryz.func38, Tryz.ntmps38
  go_wp2
  go_ret
  exact ⟨rfl, rfl⟩








set_option maxHeartbeats 1000000 in
theorem grPush_nil : Calls Tryz.prog 77 #[.pointer none, .int .i64 x] w fun e w' => e = .returned (.bool false) ∧ w = w' := by
  go_enter Tryz.func77, Tryz.ntmps77
  go_wp2
  go_ret
  exact ⟨rfl, rfl⟩

set_option maxHeartbeats 2000000 in
theorem grPush_no (h : IsGr w b M l A n c xs) (hn : M ≤ n) :
    Calls Tryz.prog 77 #[grP b, .int .i64 x] w fun e w' => e = .returned (.bool false) ∧ IsGr w' b M true A n c xs ∧ GrT b A A w w' := by
  obtain ⟨c0, c1, c2, cf⟩ := h.three
  have d : decide ((n : Int) ≥ M) = true := decide_eq_true hn
  have d2 : decide (M ≤ (n : Int)) = true := decide_eq_true hn
  have HH := Lib.hid h
  clear h
  go_enter Tryz.func77, Tryz.ntmps77
  go_wp2_with fail
  go_big_quiet (fail)
  generalize hW : w.drewN _ = W1
  have bw : Below w.heap.size w W1 := hW ▸ below_drewN _ _
  have H1 := Lib.hid (HH.out.keep bw)
  have BW := Lib.hid bw
  clear hW bw c0 c1 c2 cf HH
  obtain ⟨c0, c1, c2, cf⟩ := H1.out.three
  have H2 := Lib.hid (H1.out.say true)
  clear c0 c1 H1
  go_wp2
  go_ret
  exact ⟨rfl, H2.out, (GrT.of_below BW.out).trans (GrT.set 2 _)⟩

set_option maxHeartbeats 4000000 in
theorem grPush_yes (h : IsGr w b M l A n c xs) (hn : (n : Int) < M) :
    Calls Tryz.prog 77 #[grP b, .int .i64 x] w fun e w' => e = .returned (.bool true) ∧ ∃ A' c', IsGr w' b M l A' (n + 1) c' (xs ++ [x]) ∧ GrT b A A' w w' := by
  obtain ⟨c0, c1, c2, cf⟩ := h.three
  have d : decide ((n : Int) ≥ M) = false := decide_eq_false (by omega)
  have d2 : decide (M ≤ (n : Int)) = false := decide_eq_false (by omega)
  have few : n ≤ 1048576 := by have := h.m1; omega
  have HH := Lib.hid h
  have m1 := h.m1
  clear h
  go_enter Tryz.func77, Tryz.ntmps77
  go_wp2_with fail
  go_big_quiet (fail)
  generalize hW : w.drewN _ = W1
  have bw : Below w.heap.size w W1 := hW ▸ below_drewN _ _
  have H1 := Lib.hid (HH.out.keep bw)
  have BW := Lib.hid bw
  clear hW bw c0 c1 c2 cf HH
  obtain ⟨c0, c1, c2, cf⟩ := H1.out.three
  have hlt := H1.out.lt
  have H2 := Lib.hid (H1.out.keep ((Below.refl _ _).alloc (Nat.le_refl _) (.cells #[.int .i64 x] 3)))
  have B2 := Lib.hid (BW.out.alloc BW.out.size (.cells #[.int .i64 x] 3))
  have e2 := Lib.hid (show (W1.alloc (.cells #[.int .i64 x] 3)).cell? ⟨W1.heap.size, 0, none⟩ = some (.int .i64 x) from (Blk.new W1 #[.int .i64 x] 3).cell 0)
  clear BW H1 c1 c2
  go_wp2_with (first
    | (at_builtin; (refine wpList_append_qu _ rfl _ _ rfl H2.out.row few x ⟨W1.heap.size, 0, none⟩ 1 rfl rfl e2.out ?_))
    | fail)
  intro A' c' w2 q g
  have hb2 : blkOf A ≠ some b := fun e => H2.out.ne e rfl
  have k2 := H2.out.blk.frm g.frm hb2
  have cf2 : w2.frozen? ⟨b, 0, none⟩ = false := k2.frozen 0
  have ex2 : w2.cell? ⟨b, 0, none⟩ = some (.slice A n c) := k2.cell 0
  have H3 := Lib.hid (show IsGr (w2.setCell ⟨b, 0, none⟩ (.slice A' (n + 1) c')) b M l A' (n + 1) c' (xs ++ [x]) from
    ⟨k2.set_ 0 _, q.frm (S := fun k => k = b) (Frm.setCell (S := fun k => k = b) (Frm.refl _ _) (p := ⟨b, 0, none⟩) (fun _ => rfl) _) (fun k hk e => by
      subst e
      rcases q.lies with ⟨rfl, _⟩ | ⟨g, off, cs, rfl, hb, _⟩
      · cases hk
      · cases hk
        exact Blk.ne_ k2 hb (by decide) rfl), H2.out.m0, m1, by omega⟩)
  have T := Lib.hid (show GrT b A A' w (w2.setCell ⟨b, 0, none⟩ (.slice A' (n + 1) c')) from
    ⟨((Frm.of_below B2.out : Frm (fun k => k = b ∨ blkOf A = some k) _ _).trans g.frm (fun i _ e => .inr e)).setCell (fun _ => .inl rfl) _,
     fun k hk => (g.at_ k hk).imp id fun h => Nat.le_trans B2.out.size h⟩)
  clear k2 q g H2 B2 e2 hb2 cf c0
  go_wp2
  go_ret
  exact ⟨rfl, A', c', H3.out, T.out⟩
end
end Go.Proofs.YthmhehehomieiaaGreat

/- A slice compared with nil; slices.Clone of a slice of ints. -/
namespace Go.Proofs.YthmhehehomieiaaGreat
open Go.RowKit

set_option maxRecDepth 100000 in
/-- A slice beside nil. -/
theorem eq_nilSlice (a : Addr) (n c : Nat) (v : World) : Sem.run Tryz.prog (binOp .eql 39 (.slice (some a) n c) (.slice none 0 0)) v = .ok (.bool false) v := rfl
set_option maxRecDepth 100000 in
theorem eq_nilNil (v : World) : Sem.run Tryz.prog (binOp .eql 39 (.slice none 0 0) (.slice none 0 0)) v = .ok (.bool true) v := rfl

section
variable (A : Option Addr) (n c : Nat) (xs : List Int) (w : World)

set_option maxHeartbeats 2000000 in
theorem clone_qu (h : Qu w A n c xs) (few : n ≤ 1048576) :
    Calls Tryz.prog 70 #[.slice A n c] w fun e w' => ∃ A' c', e = .returned (.slice A' n c') ∧ Qu w' A' n c' xs ∧ Below w.heap.size w w' ∧ ∀ k, blkOf A' = some k → w.heap.size ≤ k := by
  have hA := h.lies
  have Q := Lib.hid (h.keep ((Below.refl _ _).alloc (Nat.le_refl _) (.cells #[] 3)))
  have G := Lib.hid (Blk.new w #[] 3)
  have H := Lib.hid h
  rcases hA with ⟨rfl, rfl⟩ | ⟨g, off, cs, rfl, _, _, _⟩
  · obtain rfl : n = 0 := by have := h.le; omega
    have en := eq_nilNil
    clear h Q G
    go_enter Tryz.func70, Tryz.ntmps70
    go_wp2
    go_ret
    exact ⟨_, _, rfl, H.out, Below.refl _ _, fun k hk => by cases hk⟩
  · have en := eq_nilSlice
    clear h H
    go_enter Tryz.func70, Tryz.ntmps70
    go_wp2_with (first
      | (at_builtin; (refine wpList_clone_qu _ rfl _ _ rfl Q.out few w.heap.size G.out rfl rfl ?_))
      | fail)
    intro A' c' w2 q bb hf
    have Q2 := Lib.hid (And.intro q (And.intro (((Below.refl _ w).alloc (Nat.le_refl _) (.cells #[] 3)).trans (bb.mono (by omega))) (show ∀ k, blkOf A' = some k → w.heap.size ≤ k from fun k hk => by
      rcases hf k hk with rfl | h
      · exact Nat.le_refl _
      · omega)))
    clear q bb hf Q G
    go_wp2
    go_ret
    exact ⟨A', c', rfl, Q2.out.1, Q2.out.2.1, Q2.out.2.2⟩
end
end Go.Proofs.YthmhehehomieiaaGreat

/- Lists, slices as arguments; of no program's own functions. -/
namespace Go.Proofs.YthmhehehomieiaaGreat
open Go.RowKit Go.ChangeShapes Go.WideShapes

theorem getElem?_splice {α : Type} (L : List α) (off : Nat) (cs : List α) (t : Nat) (h : off + cs.length ≤ L.length) :
    (splice L off cs)[t]? = if off ≤ t ∧ t < off + cs.length then cs[t - off]? else L[t]? := by
  unfold splice
  by_cases h1 : t < off
  · rw [if_neg (by omega), List.getElem?_append_left (by simp; omega), List.getElem?_take, if_pos h1]
  · rw [List.getElem?_append_right (by simp; omega)]
    have e : (List.take off L).length = off := by simp; omega
    rw [e]
    by_cases h2 : t < off + cs.length
    · rw [if_pos ⟨by omega, h2⟩, List.getElem?_append_left (by omega)]
    · rw [if_neg (by omega), List.getElem?_append_right (by omega), List.getElem?_drop]
      congr 1
      omega

theorem block_of_add (a : Addr) (n : Nat) : (a.add n).block = a.block := by unfold Addr.add; split <;> rfl

/-- A slice of numbers as it came in: its numbers, nil let in. -/
def Rd (k : IntKind) (w : World) (A : Option Addr) (n : Nat) (xs : List Int) : Prop :=
  xs.length = n ∧ ∀ i x, xs[i]? = some x → ∃ ad, A = some ad ∧ ad.block < w.heap.size ∧ w.cell? (ad.add i) = some (.int k x)

theorem Rd.at_ {k : IntKind} {w w' : World} {A : Option Addr} {n : Nat} {xs : List Int} (h : Rd k w A n xs) (hb : Below w.heap.size w w') {i : Nat} (hi : i < n) :
    ∃ ad x, A = some ad ∧ xs[i]? = some x ∧ w'.cell? (ad.add i) = some (.int k x) := by
  have hx := List.getElem?_eq_getElem (l := xs) (i := i) (by have := h.1; omega)
  obtain ⟨ad, e, hl, hc⟩ := h.2 i _ hx
  exact ⟨ad, _, e, hx, (hb.cell (p := ad.add i) (by rw [block_of_add]; exact hl)).trans hc⟩

theorem Rd.take {k : IntKind} {w : World} {A : Option Addr} {n : Nat} {xs : List Int} (h : Rd k w A n xs) (m : Nat) (hm : m ≤ n) : Rd k w A m (xs.take m) := by
  refine ⟨by rw [List.length_take, h.1]; omega, fun i x hx => ?_⟩
  rw [List.getElem?_take] at hx
  split at hx
  · exact h.2 i x hx
  · cases hx

theorem cell_lt {w : World} {p : Addr} {v : Value} (h : w.cell? p = some v) : p.block < w.heap.size := by
  rcases Nat.lt_or_ge p.block w.heap.size with hlt | hge
  · exact hlt
  · unfold World.cell? at h
    rw [Array.getElem?_eq_none hge] at h
    simp at h

theorem open_rd {H : Type} {enc : TypeId × Value → H} {P : Program} {w : World} {r : Reach} {b0 : Nat} {t e : TypeId} {k : IntKind} {v : Value} {d : DataW H} {ps : List MemPlace}
    (ht : P.underlying t = some (.slice e)) (he : P.underlying e = some (.int k)) (hc : P.cellsOf e = 1) (hv : Value.okWide P w r b0 t v) (h : DataW.Trod enc P w 0 (fun _ => true) true t v d ps) :
    ∃ A n c xs, v = .slice A n c ∧ n ≤ c ∧ c ≤ maxLen ∧ Rd k w A n xs ∧ ∀ x ∈ xs, (Lit.int k x).wf = true := by
  obtain ⟨A, n, c, rfl⟩ := okWide_slice ht hv
  obtain ⟨fuel, hf⟩ := h
  rcases open_ints ht he hc hf with ⟨h0, _⟩ | ⟨a, len, cap, zs, h0, _, hl, hm, hz, hx, hcell, hwf⟩
  · simp [Value.cells] at h0
    obtain ⟨rfl, rfl, rfl⟩ := h0
    exact ⟨none, 0, 0, [], rfl, Nat.le_refl _, Nat.zero_le _, ⟨rfl, fun i x hx => by simp at hx⟩, fun x hx => by simp at hx⟩
  · simp [Value.cells] at h0
    obtain ⟨rfl, rfl, rfl⟩ := h0
    simp only [if_true] at hz
    refine ⟨some a, n, c, zs.take n, rfl, hl, hm, ⟨by rw [List.length_take]; omega, fun i x hxi => ?_⟩, fun x hxm => hwf x (List.mem_of_mem_take hxm)⟩
    rw [List.getElem?_take] at hxi
    split at hxi
    · rename_i hin
      have hcl : w.cell? (a.add i) = some (.int k x) := by
        have := hcell i (by omega)
        rw [this, List.getD, hxi]; rfl
      exact ⟨a, rfl, by have := cell_lt hcl; rwa [block_of_add] at this, hcl⟩
    · cases hxi
end Go.Proofs.YthmhehehomieiaaGreat
