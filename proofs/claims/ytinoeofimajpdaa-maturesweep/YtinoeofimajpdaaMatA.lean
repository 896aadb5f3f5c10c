/- Contracts of the program's small functions (package mature: nearest, begin, all, has, holds) and of slices.Index and slices.Contains over flags. -/
import Derived.Test.YtinoeofimajpdaaRefU
import Derived.Test.YtinoeofimajpdaaClassB
namespace Go.Proofs.Ytinoeofimajpdaa
open Go.RowKit

set_option maxHeartbeats 1000000 in
theorem nearest_any (n l m : Int) (w : World) (hlm : l ≤ m) :
    Calls Try.prog 26 #[.int .i64 n, .int .i64 l, .int .i64 m] w fun e w' => e = .returned (.int .i64 (cutI n l m)) ∧ w = w' := by
  by_cases h0 : n < l
  · have E := Lib.hid (show cutI n l m = l from if_pos h0)
    go_enter Try.func26, Try.ntmps26
    go_wp2
    go_ret
    refine ⟨?_, rfl⟩
    rw [E.out]
    congr 2
    repeat' split
    all_goals omega
  · by_cases h1 : m < n
    · have E := Lib.hid (show cutI n l m = m from by rw [cutI, if_neg h0, if_pos h1])
      go_enter Try.func26, Try.ntmps26
      go_wp2
      go_ret
      refine ⟨?_, rfl⟩
      rw [E.out]
      congr 2
      repeat' split
      all_goals omega
    · have E := Lib.hid (show cutI n l m = n from by rw [cutI, if_neg h0, if_neg h1])
      go_enter Try.func26, Try.ntmps26
      go_wp2
      go_ret
      refine ⟨?_, rfl⟩
      rw [E.out]
      congr 2
      repeat' split
      all_goals omega

/-- The program's space: its block. -/
def SpB (w : World) (b : Nat) (F G : Int) (pb N : Nat) : Prop := Blk w b #[.int .i64 F, .int .i64 G, .slice (some ⟨pb, 0, none⟩) N N] 53

theorem SpB.three {w : World} {b : Nat} {F G : Int} {pb N : Nat} (h : SpB w b F G pb N) :
    w.cell? ⟨b, 0, none⟩ = some (.int .i64 F) ∧ w.cell? ⟨b, 1, none⟩ = some (.int .i64 G) ∧ w.cell? ⟨b, 2, none⟩ = some (.slice (some ⟨pb, 0, none⟩) N N) ∧ (∀ i, w.frozen? ⟨b, i, none⟩ = false) :=
  ⟨Blk.cell h 0, Blk.cell h 1, Blk.cell h 2, Blk.frozen h⟩

theorem page_in {G i : Int} (g0 : 1 ≤ G) (g1 : G ≤ 256) (i0 : 0 ≤ i) (i1 : i ≤ 64) : 0 ≤ i * G ∧ i * G ≤ 16384 := by
  have h0 : 0 ≤ i * G := Int.mul_nonneg i0 (by omega)
  have h1 := Int.mul_le_mul_of_nonneg_right i1 (show 0 ≤ G by omega)
  omega

set_option maxHeartbeats 1000000 in
theorem begin_any (b : Nat) (F G i : Int) (pb N : Nat) (w : World) (h : SpB w b F G pb N) (f0 : 0 ≤ F) (f1 : F ≤ 1048576) (g0 : 1 ≤ G) (g1 : G ≤ 256) (i0 : 0 ≤ i) (i1 : i ≤ 64) :
    Calls Try.prog 46 #[spP b, .int .i64 i] w fun e w' => e = .returned (.int .i64 (F + i * G)) ∧ ∃ m, w' = w.drewN m := by
  obtain ⟨c0, c1, c2, cf⟩ := h.three
  have hp := page_in g0 g1 i0 i1
  have hm : IntKind.i64.wrap (i * G) = i * G := IntWalk.i64_in _ (by omega)
  have hs : IntKind.i64.wrap (F + i * G) = F + i * G := IntWalk.i64_in _ (by omega)
  clear c2 h
  unfold spP
  go_enter Try.func46, Try.ntmps46
  go_wp2_with fail
  go_quiet (fail)
  go_wp2
  go_ret
  exact ⟨rfl, _, rfl⟩

set_option maxHeartbeats 1000000 in
theorem all_any (b : Nat) (F G : Int) (pb N : Nat) (w : World) (h : SpB w b F G pb N) :
    Calls Try.prog 40 #[spP b] w fun e w' => e = .returned (.slice (some ⟨pb, 0, none⟩) N N) ∧ w = w' := by
  obtain ⟨c0, c1, c2, cf⟩ := h.three
  clear c0 c1 h
  unfold spP
  go_enter Try.func40, Try.ntmps40
  go_wp2
  go_ret
  exact ⟨rfl, rfl⟩

def hasI (N : Nat) (n : Int) : Bool := decide (0 ≤ n) && decide (n < N)

set_option maxHeartbeats 1000000 in
theorem has_any (b : Nat) (F G : Int) (pb N : Nat) (n : Int) (w : World) (h : SpB w b F G pb N) :
    Calls Try.prog 42 #[spP b, .int .i64 n] w fun e w' => e = .returned (.bool (hasI N n)) ∧ w = w' := by
  have HA := Lib.hid (all_any b F G pb N w h)
  clear h
  unfold spP at HA ⊢
  by_cases h0 : 0 ≤ n
  · have E := Lib.hid (show hasI N n = decide (n < (N : Int)) from by rw [hasI, decide_eq_true h0, Bool.true_and])
    go_enter Try.func42, Try.ntmps42
    go_wp2_with fail
    refine HA.out.mono ?_
    rintro e w1 ⟨rfl, rfl⟩
    go_wp2
    go_ret
    exact ⟨by rw [E.out]; rfl, rfl⟩
  · have E := Lib.hid (show hasI N n = false from by rw [hasI, decide_eq_false h0, Bool.false_and])
    go_enter Try.func42, Try.ntmps42
    go_wp2
    go_ret
    exact ⟨by rw [E.out]; rfl, rfl⟩

def firstB (k : Int) : Bool := k == 1 || k == 2

set_option maxHeartbeats 1000000 in
theorem holds_any (k s : Int) (v : Value) (p : Bool) (w : World) :
    Calls Try.prog 41 #[.agg #[.int .i64 k, .int .i64 s, v, .bool p]] w fun e w' => e = .returned (.bool (firstB k)) ∧ Below w.heap.size w w' := by
  by_cases h1 : k = 1
  · subst h1
    go_enter Try.func41, Try.ntmps41
    go_wp2
    go_ret
    exact ⟨rfl, (Below.refl _ _).alloc (Nat.le_refl _) _⟩
  · go_enter Try.func41, Try.ntmps41
    go_wp2
    go_ret
    exact ⟨rfl, (Below.refl _ _).alloc (Nat.le_refl _) _⟩

/-- Where the first flag is that is v; below 0: nowhere. -/
def idxI (us : List Bool) (v : Bool) : Int := match us.findIdx? (fun x => v == x) with
  | some i => i
  | none => -1

set_option maxHeartbeats 1000000 in
theorem index_any (u : Nat) (us : List Bool) (v : Bool) (w : World) (h : Blk w u (us.map Value.bool).toArray 4) (few : us.length ≤ 256) :
    Calls Try.prog 50 #[.slice (some ⟨u, 0, none⟩) us.length us.length, .bool v] w fun e w' => e = .returned (.int .i64 (idxI us v)) ∧ w = w' := by
  have HH := Lib.hid h
  have cf := h.frozen
  clear h
  go_enter Try.func50, Try.ntmps50
  go_wp2_with fail
  go_loopw [8] (fun s wr => ∃ j : Nat, j ≤ us.length ∧ s = .int .i64 j ∧ Hid (∀ k x, k < j → us[k]? = some x → (v == x) = false) ∧ w = wr) (fun s _ => us.length - (intOf s).toNat)
  case atStart => exact ⟨0, Nat.zero_le _, rfl, Lib.hid (fun k c hk => by omega), rfl⟩
  case round =>
    obtain ⟨j, hj, rfl, HT, rfl⟩ := hrel
    by_cases hlt : j < us.length
    · obtain ⟨x, hx⟩ : ∃ x, us[j]? = some x := ⟨_, List.getElem?_eq_getElem hlt⟩
      have c0 := HH.out.bools hx
      have HX := Lib.hid hx
      clear hx
      cases e : (v == x)
      · have N1 := Lib.hid (show ∀ k y, k < j + 1 → us[k]? = some y → (v == y) = false from fun k y hk hy => by
          by_cases ek : k = j
          · subst ek
            obtain rfl : x = y := by have := HX.out.symm.trans hy; simpa using this
            exact e
          · exact HT.out k y (by omega) hy)
        have ed : decide (v = x) = false := by cases v <;> cases x <;> simp_all
        go_wp2
        go_roundw
        case rel => exact ⟨j + 1, by omega, by go_num, N1.out, by trivial⟩
        case measure => simp [intOf]; omega
      · have hit := Lib.hid (show idxI us v = j from by
          have : us.findIdx? (fun x => v == x) = some j := by
            rw [List.findIdx?_eq_some_iff_getElem]
            refine ⟨hlt, ?_, fun k hk => ?_⟩
            · have e2 : us[j] = x := by have := HX.out; rw [List.getElem?_eq_getElem hlt] at this; simpa using this
              rw [e2]; exact e
            · rw [HT.out k _ hk (List.getElem?_eq_getElem (by omega))]; exact Bool.false_ne_true
          rw [idxI, this])
        have ed : decide (v = x) = true := by cases v <;> cases x <;> simp_all
        go_wp2
        go_ret
        exact ⟨by rw [hit.out]; rfl, rfl⟩
    · obtain rfl : j = us.length := by omega
      have hit := Lib.hid (show idxI us v = -1 from by
        have : us.findIdx? (fun x => v == x) = none := by
          rw [List.findIdx?_eq_none_iff]
          intro x hx
          obtain ⟨k, hk, rfl⟩ := List.getElem_of_mem hx
          exact HT.out k _ hk (List.getElem?_eq_getElem hk)
        rw [idxI, this])
      go_wp2
      go_ret
      exact ⟨by rw [hit.out]; rfl, rfl⟩

theorem idxI_cases (us : List Bool) (v : Bool) : (∃ j : Nat, idxI us v = j ∧ us[j]? = some v ∧ ∀ i : Nat, i < j → us[i]? ≠ some v) ∨ (idxI us v = -1 ∧ v ∉ us) := by
  unfold idxI
  cases h : us.findIdx? (fun x => v == x) with
  | none =>
    rw [List.findIdx?_eq_none_iff] at h
    exact Or.inr ⟨rfl, fun hm => by have := h v hm; simp at this⟩
  | some i =>
    obtain ⟨hi, hp, hn⟩ := List.findIdx?_eq_some_iff_getElem.1 h
    refine Or.inl ⟨i, rfl, ?_, fun k hk e => ?_⟩
    · have : v = us[i] := by simpa using hp
      rw [List.getElem?_eq_getElem hi, ← this]
    · have h1 := hn k hk
      rw [List.getElem?_eq_getElem (by omega)] at e
      have : us[k] = v := by simpa using e
      rw [this] at h1
      simp at h1

def hasV (us : List Bool) (v : Bool) : Bool := decide (v ∈ us)

set_option maxHeartbeats 1000000 in
theorem contains_any (u : Nat) (us : List Bool) (v : Bool) (w : World) (h : Blk w u (us.map Value.bool).toArray 4) (few : us.length ≤ 256) :
    Calls Try.prog 38 #[.slice (some ⟨u, 0, none⟩) us.length us.length, .bool v] w fun e w' => e = .returned (.bool (hasV us v)) ∧ w = w' := by
  have hI := index_any u us v w h few
  rcases idxI_cases us v with ⟨j, e1, e2, _⟩ | ⟨e1, e2⟩
  · rw [e1] at hI
    have HI := Lib.hid hI
    have E := Lib.hid (show hasV us v = true from decide_eq_true (List.mem_of_getElem? e2))
    clear hI h e1 e2
    go_enter Try.func38, Try.ntmps38
    go_wp2_with fail
    refine HI.out.mono ?_
    rintro e w1 ⟨rfl, rfl⟩
    go_wp2
    go_ret
    exact ⟨by rw [E.out]; rfl, rfl⟩
  · rw [e1] at hI
    have HI := Lib.hid hI
    have E := Lib.hid (show hasV us v = false from decide_eq_false e2)
    clear hI h e1 e2
    go_enter Try.func38, Try.ntmps38
    go_wp2_with fail
    refine HI.out.mono ?_
    rintro e w1 ⟨rfl, rfl⟩
    go_wp2
    go_ret
    exact ⟨by rw [E.out]; rfl, rfl⟩
end Go.Proofs.Ytinoeofimajpdaa
