/- Contracts of the program's Mark, Marked, Clear, First, Part, Count. -/
import Derived.Test.YtfjojpfknjdjiaaCardA
namespace Go.Proofs.Ytfjojpfknjdjiaa
open Go.RowKit

/-- Of what was there only the marks have turned: they are ms now. -/
structure Tn (b mb : Nat) (F W C : Int) (ms : List Bool) (w w' : World) : Prop where
  is : IsTb w' b mb F W C ms
  frm : Frm (· = mb) w w'

section
variable {w w' w'' : World} {b mb : Nat} {F W C : Int} {ms ks : List Bool}
theorem Tn.pre (f : Below w.heap.size w w') (k : Tn b mb F W C ms w' w'') : Tn b mb F W C ms w w'' := ⟨k.is, (Frm.of_below f).trans k.frm fun _ _ e => e⟩
theorem Tn.of_set {w1 : World} (h : IsTb w1 b mb F W C ms) (f : Below w.heap.size w w1) (i : Nat) (x : Bool) : Tn b mb F W C (ms.set i x) w (w1.setCell ⟨mb, i, none⟩ (.bool x)) :=
  ⟨h.set i x, (Frm.of_below (S := fun k => k = mb) f).setCell (p := ⟨mb, i, none⟩) (fun _ => rfl) _⟩
theorem Tn.keep {v : World} (k : Tn b mb F W C ms w w') (f : Below w'.heap.size w' v) : Tn b mb F W C ms w v := ⟨k.is.keep f, k.frm.trans (S' := fun _ => False) (Frm.of_below f) fun _ _ e => e.elim⟩
end

section
variable (b mb : Nat) (F W C : Int) (ms : List Bool) (w : World)

set_option maxHeartbeats 2000000 in
theorem cMark_yes (x : Int) (j : Nat) (h : IsTb w b mb F W C ms) (x0 : F ≤ x) (x1 : x < F + W) (hj : (x - F) / C = j) :
    Calls Try.prog 28 #[tbP b, .int .i64 x] w fun e w' => e = .returned (.bool true) ∧ Tn b mb F W C (ms.set j true) w w' := by
  have HF := Lib.hid (cfind_yes b mb F W C ms x j w h x0 x1 hj)
  have at0 := h.at_ x0 x1
  rw [hj] at at0
  have HH := Lib.hid h
  obtain ⟨_, at1⟩ := at0
  have few := h.few
  clear h hj
  go_enter Try.func28, Try.ntmps28
  go_wp2_with fail
  refine HF.out.mono ?_
  rintro e w1 ⟨rfl, b1⟩
  have hi := HH.out.keep b1
  obtain ⟨c0, c1, c2, c3, cf⟩ := hi.four
  have cm := hi.row.bools (i := j) (x := ms[j]'(by omega)) (List.getElem?_eq_getElem _)
  have cfm := hi.row.frozen
  have HI := Lib.hid hi
  have HB := Lib.hid b1
  clear hi c0 c1 c2 b1
  go_wp2
  go_ret
  exact ⟨rfl, Tn.of_set HI.out HB.out _ _⟩

set_option maxHeartbeats 2000000 in
theorem cMark_no (x : Int) (h : IsTb w b mb F W C ms) (hx : x < F ∨ F + W ≤ x) (hi : x ≤ 9223372036854775807) :
    Calls Try.prog 28 #[tbP b, .int .i64 x] w fun e w' => e = .returned (.bool false) ∧ Below w.heap.size w w' := by
  have HF := Lib.hid (cfind_no b mb F W C ms x w h hx hi)
  clear h hx hi
  go_enter Try.func28, Try.ntmps28
  go_wp2_with fail
  refine HF.out.mono ?_
  rintro e w1 ⟨rfl, b1⟩
  go_wp2
  go_ret
  exact ⟨rfl, b1⟩

set_option maxHeartbeats 2000000 in
theorem cMark_nil (x : Int) :
    Calls Try.prog 28 #[.pointer none, .int .i64 x] w fun e w' => e = .returned (.bool false) ∧ Below w.heap.size w w' := by
  go_enter Try.func28, Try.ntmps28
  go_wp2_with fail
  refine (cfind_nil x w).mono ?_
  rintro e w1 ⟨rfl, b1⟩
  go_wp2
  go_ret
  exact ⟨rfl, b1⟩




set_option maxHeartbeats 2000000 in
theorem cClear_yes (j : Nat) (v : Bool) (h : IsTb w b mb F W C ms) (hv : ms[j]? = some v) :
    Calls Try.prog 31 #[tbP b, .int .i64 j] w fun e w' => e = .returned (.bool v) ∧ Tn b mb F W C (ms.set j false) w w' := by
  have at1 : (j : Int) < ms.length := by have := (List.getElem?_eq_some_iff.1 hv).1; omega
  have HF := chas_any b mb F W C ms j w h
  rw [hasI_yes (by omega) at1] at HF
  have HF := Lib.hid HF
  obtain ⟨c0, c1, c2, c3, cf⟩ := h.four
  have cm := h.row.bools hv
  have cfm := h.row.frozen
  have HH := Lib.hid h
  have ne := h.ne
  have few := h.few
  clear h hv c0 c1 c2
  go_enter Try.func31, Try.ntmps31
  go_wp2_with fail
  refine HF.out.mono ?_
  rintro e w1 ⟨rfl, rfl⟩
  go_wp2
  go_ret
  exact ⟨rfl, Tn.of_set HH.out (Below.refl _ _) _ _⟩

set_option maxHeartbeats 2000000 in
theorem cClear_no (n : Int) (h : IsTb w b mb F W C ms) (hn : n < 0 ∨ ms.length ≤ n) :
    Calls Try.prog 31 #[tbP b, .int .i64 n] w fun e w' => e = .returned (.bool false) ∧ w = w' := by
  have HF := chas_any b mb F W C ms n w h
  rw [hasI_no hn] at HF
  have HF := Lib.hid HF
  clear h hn
  go_enter Try.func31, Try.ntmps31
  go_wp2_with fail
  refine HF.out.mono ?_
  rintro e w1 ⟨rfl, rfl⟩
  go_wp2
  go_ret
  exact ⟨rfl, rfl⟩

set_option maxHeartbeats 2000000 in
theorem cClear_nil (n : Int) : Calls Try.prog 31 #[.pointer none, .int .i64 n] w fun e w' => e = .returned (.bool false) ∧ w = w' := by
  go_enter Try.func31, Try.ntmps31
  go_wp2_with fail
  refine (chas_nil n w).mono ?_
  rintro e w1 ⟨rfl, rfl⟩
  go_wp2
  go_ret
  exact ⟨rfl, rfl⟩

/-- The first mark from n on that is set. -/
def FirstA (ms : List Bool) (n : Int) (r : Int) (ok : Bool) : Prop :=
  (∃ j : Nat, r = j ∧ ok = true ∧ n ≤ j ∧ ms[j]? = some true ∧ ∀ i : Nat, n ≤ i → i < j → ms[i]? = some false) ∨ (r = 0 ∧ ok = false ∧ ∀ i : Nat, n ≤ i → ms[i]? ≠ some true)

theorem FirstA.one {ms : List Bool} {n r r' : Int} {ok ok' : Bool} (h : FirstA ms n r ok) (k : FirstA ms n r' ok') : r = r' ∧ ok = ok' := by
  rcases h with ⟨j, rfl, rfl, a, b, c⟩ | ⟨rfl, rfl, c⟩
  · rcases k with ⟨j', rfl, rfl, a', b', c'⟩ | ⟨rfl, rfl, c'⟩
    · rcases Nat.lt_trichotomy j j' with l | l | l
      · have := c' j a l; rw [b] at this; cases this
      · exact ⟨by rw [l], rfl⟩
      · have := c j' a' l; rw [b'] at this; cases this
    · exact absurd b (c' j a)
  · rcases k with ⟨j', rfl, rfl, a', b', c'⟩ | ⟨rfl, rfl, c'⟩
    · exact absurd b' (c j' a')
    · exact ⟨rfl, rfl⟩

set_option maxHeartbeats 4000000 in
theorem cFirst_any (n : Int) (h : IsTb w b mb F W C ms) (hn : n ≤ 9223372036854775807) :
    Calls Try.prog 30 #[tbP b, .int .i64 n] w fun e w' => ∃ r ok, e = .returned (.tuple #[.int .i64 r, .bool ok]) ∧ FirstA ms n r ok ∧ w = w' := by
  obtain ⟨k, hk, hk0, hk1⟩ : ∃ k : Nat, (if n ≤ 0 then 0 else n) = (k : Int) ∧ (n ≤ k) ∧ ∀ i : Nat, n ≤ i → k ≤ i := ⟨n.toNat, by split <;> omega, by omega, fun i hi => by omega⟩
  have hk2 : (if n < 0 then 0 else n) = (k : Int) := by rw [← hk]; split <;> split <;> omega
  have hk3 : (if 0 < n then n else 0) = (k : Int) := by rw [← hk]; split <;> split <;> omega
  have hk4 : (if 0 ≤ n then n else 0) = (k : Int) := by rw [← hk]; split <;> split <;> omega
  have hb : (k : Int) ≤ 9223372036854775807 := by omega
  have few := h.few
  have HH := Lib.hid h
  have HK := Lib.hid hk0
  have HL := Lib.hid hk1
  obtain ⟨c0, c1, c2, c3, cf⟩ := h.four
  clear h c0 c1 c2 hk0 hk1
  go_enter Try.func30, Try.ntmps30
  go_wp2_with fail
  go_loopw [6] (fun s wr => ∃ j : Nat, k ≤ j ∧ (j : Int) ≤ 9223372036854775807 ∧ s = .int .i64 j ∧ Hid (∀ i : Nat, k ≤ i → i < j → ms[i]? = some false) ∧ w = wr) (fun s _ => ms.length - (intOf s).toNat)
  case atStart => exact ⟨k, Nat.le_refl _, hb, rfl, Lib.hid (fun i h1 h2 => by omega), rfl⟩
  case round =>
    obtain ⟨j, kj, hj, rfl, HT, rfl⟩ := hrel
    have HF := chas_any b mb F W C ms j w HH.out
    by_cases hlt : j < ms.length
    · rw [hasI_yes (by omega) (by omega)] at HF
      have HF := Lib.hid HF
      obtain ⟨x, hx⟩ : ∃ x, ms[j]? = some x := ⟨_, List.getElem?_eq_getElem hlt⟩
      have cm := HH.out.row.bools hx
      have HX := Lib.hid hx
      clear hx
      cases x
      · have N1 := Lib.hid (show ∀ i : Nat, k ≤ i → i < j + 1 → ms[i]? = some false from fun i h1 h2 => by
          by_cases e : i = j
          · subst e; exact HX.out
          · exact HT.out i h1 (by omega))
        go_wp2_with fail
        refine HF.out.mono ?_
        rintro e w1 ⟨rfl, rfl⟩
        go_wp2
        go_roundw
        case rel => exact ⟨j + 1, by omega, by omega, by go_num, N1, by trivial⟩
        case measure => simp [intOf]; omega
      · go_wp2_with fail
        refine HF.out.mono ?_
        rintro e w1 ⟨rfl, rfl⟩
        go_wp2
        go_ret2
        exact ⟨_, _, rfl, Or.inl ⟨j, rfl, rfl, by have := HK.out; omega, HX.out, fun i h1 h2 => HT.out i (HL.out i h1) h2⟩, rfl⟩
    · rw [hasI_no (by omega)] at HF
      have HF := Lib.hid HF
      go_wp2_with fail
      refine HF.out.mono ?_
      rintro e w1 ⟨rfl, rfl⟩
      go_wp2
      go_ret2
      refine ⟨_, _, rfl, Or.inr ⟨rfl, rfl, fun i h1 h2 => ?_⟩, rfl⟩
      have h3 := (List.getElem?_eq_some_iff.1 h2).1
      have h4 := HT.out i (HL.out i h1) (by omega)
      rw [h2] at h4
      cases h4

set_option maxHeartbeats 4000000 in
theorem cFirst_nil (n : Int) : Calls Try.prog 30 #[.pointer none, .int .i64 n] w fun e w' => e = .returned (.tuple #[.int .i64 0, .bool false]) ∧ w = w' := by
  have HN := Lib.hid (fun k => chas_nil k w)
  obtain ⟨k, hk⟩ : ∃ k : Int, (if n ≤ 0 then 0 else n) = k := ⟨_, rfl⟩
  have hk2 : (if n < 0 then 0 else n) = k := by rw [← hk]; split <;> split <;> omega
  have hk3 : (if 0 < n then n else 0) = k := by rw [← hk]; split <;> split <;> omega
  have hk4 : (if 0 ≤ n then n else 0) = k := by rw [← hk]; split <;> split <;> omega
  go_enter Try.func30, Try.ntmps30
  go_wp2_with fail
  go_loopw [6] (fun s wr => (∃ k, s = .int .i64 k) ∧ w = wr) (fun s _ => 0)
  case atStart => exact ⟨⟨_, rfl⟩, rfl⟩
  case round =>
    obtain ⟨⟨k, rfl⟩, rfl⟩ := hrel
    go_wp2_with fail
    refine (HN.out k).mono ?_
    rintro e w1 ⟨rfl, rfl⟩
    go_wp2
    go_ret2
    exact ⟨rfl, rfl⟩

/-- Where a mark's part begins: within the words. -/
theorem IsTb.part {w : World} {b mb : Nat} {F W C : Int} {ms : List Bool} (h : IsTb w b mb F W C ms) {n : Int} (n0 : 0 ≤ n) (n1 : n < ms.length) : 0 ≤ n * C ∧ n * C < W := by
  have k := marks_in h.w0 h.w1 h.c0
  have l := h.len
  have c0 := h.c0
  refine ⟨Int.mul_nonneg n0 (by omega), ?_⟩
  rw [← l] at k
  have h1 : (n + 1) * C ≤ ms.length * C := Int.mul_le_mul_of_nonneg_right (by omega) (by omega)
  rw [Int.add_mul, Int.one_mul] at h1
  omega

/-- Where it ends. -/
def endI (F W C n : Int) : Int := if F + n * C + C > F + W then F + W else F + n * C + C

set_option maxHeartbeats 4000000 in
theorem cPart_yes (n : Int) (h : IsTb w b mb F W C ms) (n0 : 0 ≤ n) (n1 : n < ms.length) :
    Calls Try.prog 22 #[tbP b, .int .i64 n] w fun e w' => e = .returned (.tuple #[.int .i64 (F + n * C), .int .i64 (endI F W C n)]) ∧ Below w.heap.size w w' := by
  have HF := chas_any b mb F W C ms n w h
  rw [hasI_yes n0 n1] at HF
  have HF := Lib.hid HF
  have hp := h.part n0 n1
  obtain ⟨c0, c1, c2, c3, cf⟩ := h.four
  have f0 := h.f0
  have f1 := h.f1
  have w1 := h.w1
  have k0 := h.c0
  have k1 := h.c1
  have HE := Lib.hid (show endI F W C n = if F + n * C + C > F + W then F + W else F + n * C + C from rfl)
  obtain ⟨L, hL⟩ : ∃ L, n * C = L := ⟨_, rfl⟩
  rw [hL] at hp HE ⊢
  obtain ⟨p0, p1⟩ := hp
  have s0 : IntKind.i64.wrap L = L := IntWalk.i64_in _ (by omega)
  have s1 : IntKind.i64.wrap (F + L) = F + L := IntWalk.i64_in _ (by omega)
  have s2 : IntKind.i64.wrap (L + C) = L + C := IntWalk.i64_in _ (by omega)
  clear h c3 n0 n1
  by_cases hm : W ≤ L + C
  · have HM := Lib.hid (show endI F W C n = F + W by rw [HE.out]; split <;> omega)
    have s3 : IntKind.i64.wrap (F + W) = F + W := IntWalk.i64_in _ (by omega)
    have m1 : (if L + C ≤ W then L + C else W) = W := by split <;> omega
    have m2 : (if L + C < W then L + C else W) = W := by split <;> omega
    have m3 : (if W < L + C then W else L + C) = W := by split <;> omega
    have m4 : (if W ≤ L + C then W else L + C) = W := by split <;> omega
    rw [HM.out]
    clear HE
    go_enter Try.func22, Try.ntmps22
    go_wp2_with fail
    refine HF.out.mono ?_
    rintro e w1 ⟨rfl, rfl⟩
    go_wp2_with fail
    go_region
    go_wp2
    go_ret2
    exact ⟨rfl, below_drew _⟩
  · have HM := Lib.hid (show endI F W C n = F + (L + C) by rw [HE.out]; split <;> omega)
    have s3 : IntKind.i64.wrap (F + (L + C)) = F + (L + C) := IntWalk.i64_in _ (by omega)
    have m1 : (if L + C ≤ W then L + C else W) = L + C := by split <;> omega
    have m2 : (if L + C < W then L + C else W) = L + C := by split <;> omega
    have m3 : (if W < L + C then W else L + C) = L + C := by split <;> omega
    have m4 : (if W ≤ L + C then W else L + C) = L + C := by split <;> omega
    rw [HM.out]
    clear HE
    go_enter Try.func22, Try.ntmps22
    go_wp2_with fail
    refine HF.out.mono ?_
    rintro e w1 ⟨rfl, rfl⟩
    go_wp2_with fail
    go_region
    go_wp2
    go_ret2
    exact ⟨rfl, below_drew _⟩

set_option maxHeartbeats 4000000 in
theorem cPart_no (n : Int) (h : IsTb w b mb F W C ms) (hn : n < 0 ∨ ms.length ≤ n) :
    Calls Try.prog 22 #[tbP b, .int .i64 n] w fun e w' => e = .returned (.tuple #[.int .i64 0, .int .i64 0]) ∧ w = w' := by
  have HF := chas_any b mb F W C ms n w h
  rw [hasI_no hn] at HF
  have HF := Lib.hid HF
  clear h hn
  go_enter Try.func22, Try.ntmps22
  go_wp2_with fail
  refine HF.out.mono ?_
  rintro e w1 ⟨rfl, rfl⟩
  go_wp2
  go_ret2
  exact ⟨rfl, rfl⟩

set_option maxHeartbeats 4000000 in
theorem cPart_nil (n : Int) : Calls Try.prog 22 #[.pointer none, .int .i64 n] w fun e w' => e = .returned (.tuple #[.int .i64 0, .int .i64 0]) ∧ w = w' := by
  go_enter Try.func22, Try.ntmps22
  go_wp2_with fail
  refine (chas_nil n w).mono ?_
  rintro e w1 ⟨rfl, rfl⟩
  go_wp2
  go_ret2
  exact ⟨rfl, rfl⟩

/-- How many of the first n are set. -/
def cntI (ms : List Bool) (n : Nat) : Nat := (ms.take n).count true

theorem cntI_next {ms : List Bool} {n : Nat} {x : Bool} (h : ms[n]? = some x) : cntI ms (n + 1) = cntI ms n + (if x then 1 else 0) := by
  unfold cntI
  rw [List.take_add_one, h, List.count_append]
  cases x <;> simp

theorem cntI_le (ms : List Bool) (n : Nat) : cntI ms n ≤ n := by
  unfold cntI
  have := List.count_le_length (a := true) (l := ms.take n)
  rw [List.length_take] at this
  omega

theorem cntI_all (ms : List Bool) : cntI ms ms.length = ms.count true := by unfold cntI; rw [List.take_length]

set_option maxHeartbeats 4000000 in
theorem cCount_any (h : IsTb w b mb F W C ms) :
    Calls Try.prog 26 #[tbP b] w fun e w' => e = .returned (.int .i64 (ms.count true : Nat)) ∧ w = w' := by
  have HA := Lib.hid (call_any b mb F W C ms w h)
  have few := h.few
  have HH := Lib.hid h
  have HN := Lib.hid (cntI_all ms)
  clear h
  go_enter Try.func26, Try.ntmps26
  go_wp2_with fail
  refine HA.out.mono ?_
  rintro e w1 ⟨rfl, rfl⟩
  go_wp2_with fail
  go_loopw [3, 9] (fun s3 s wr => ∃ j c : Nat, j ≤ ms.length ∧ s = .int .i64 j ∧ s3 = .int .i64 c ∧ c ≤ j ∧ Hid (cntI ms j = c) ∧ w = wr) (fun _ s _ => ms.length - (intOf s).toNat)
  case atStart => exact ⟨0, 0, Nat.zero_le _, rfl, rfl, Nat.le_refl _, Lib.hid (by simp [cntI]), rfl⟩
  case round =>
    obtain ⟨j, c, hj, rfl, rfl, hc, HT, rfl⟩ := hrel
    by_cases hlt : j < ms.length
    · obtain ⟨x, hx⟩ : ∃ x, ms[j]? = some x := ⟨_, List.getElem?_eq_getElem hlt⟩
      have cm := HH.out.row.bools hx
      have HX := Lib.hid hx
      clear hx
      cases x
      · have N1 := Lib.hid (show cntI ms (j + 1) = c by rw [cntI_next HX.out, HT.out]; rfl)
        go_wp2
        go_roundw
        case rel => exact ⟨j + 1, c, by omega, by go_num, rfl, by omega, N1, by trivial⟩
        case measure => simp [intOf]; omega
      · have N1 := Lib.hid (show cntI ms (j + 1) = c + 1 by rw [cntI_next HX.out, HT.out]; rfl)
        go_wp2
        go_roundw
        case rel => exact ⟨j + 1, c + 1, by omega, by go_num, by go_num, by omega, N1, by trivial⟩
        case measure => simp [intOf]; omega
    · obtain rfl : j = ms.length := by omega
      have E := Lib.hid (show ms.count true = c by rw [← HN.out, HT.out])
      go_wp2
      go_ret
      exact ⟨ret_int (by rw [E.out]), rfl⟩

set_option maxHeartbeats 4000000 in
theorem cCount_nil : Calls Try.prog 26 #[.pointer none] w fun e w' => e = .returned (.int .i64 0) ∧ w = w' := by
  go_enter Try.func26, Try.ntmps26
  go_wp2_with fail
  refine (call_nil w).mono ?_
  rintro e w1 ⟨rfl, rfl⟩
  go_wp2_with fail
  go_loopw [3, 9] (fun s3 s wr => s = .int .i64 0 ∧ s3 = .int .i64 0 ∧ w = wr) (fun _ s _ => 0)
  case atStart => exact ⟨rfl, rfl, rfl⟩
  case round =>
    obtain ⟨rfl, rfl, rfl⟩ := hrel
    go_wp2
    go_ret
    exact ⟨rfl, rfl⟩
end
end Go.Proofs.Ytfjojpfknjdjiaa
