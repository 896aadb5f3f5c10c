/- A set of numbers told as a map, beside flags; the walk of CardTimes. -/
import Derived.Test.YtckmijhmjnhfaaaCardD
import Derived.Test.YtckmijhmjnhfaaaNums
import Derived.Maps.OwnSet
namespace Go.Proofs.Ytckmijhmjnhfaaa
open Go.RowKit Go.Maps

abbrev KI (c : Nat) : Lit := .int .i64 (c : Int)

theorem lawI : Keyed Try.prog 3 := int_keyed Try.underlying3
theorem zeroB (w : World) : (zeroValue 4).run Try.prog w = .ok (.bool false) w := by kernel_rfl
theorem keyI (c : Nat) (h : c ≤ 1048576) : keyOf Try.prog 3 (.int .i64 (c : Int)) = some (KI c) := keyOf_int_mk Try.underlying3 (WalkArith.wf_i64 (by omega))

theorem KI_ne {a b : Nat} (h : a ≠ b) : KI a ≠ KI b := fun e => by injection e with _ e; omega

/-- A look-up among flags. -/
theorem look_bool {w : World} {B n : Nat} {D : DataW Unit} (h : w.ownsMap Try.prog 3 (plainElem Try.prog 4) B n D) {c : Nat} (hc : c ≤ 1048576) {x : Bool} (hx : D.atKey (KI c) (.lit (.bool false)) = .lit (.bool x)) :
    (Instr.lookup 41 (.map (some B)) (.int .i64 (c : Int)) false).run Try.prog w = .ok (.bool x) w := by
  obtain ⟨v, ps, hrun, hv⟩ := h.lookup lawI Try.underlying41 (zeroB w) (plainElem_bool Try.underlying4 false) (keyI c hc)
  rw [hx] at hv
  have : v = .bool x := by
    unfold plainElem at hv
    rw [Try.underlying4] at hv
    cases v <;> simp at hv
    rw [hv.1]
  rw [← this]
  exact hrun

/-- The map holds just the numbers of the marks that are set. -/
structure Told (D : DataW Unit) (ms : List Bool) : Prop where
  has_ : ∀ c, has D (KI c) = ms.getD c false
  at_ : ∀ c, ms[c]? = some true → D.atKey (KI c) (.lit (.bool false)) = .lit (.bool true)
  size_ : size D = ms.count true

theorem count_set_true {ms : List Bool} {j : Nat} (h : j < ms.length) : (ms.set j true).count true = if ms.getD j false then ms.count true else ms.count true + 1 := by
  rw [List.count_set h, List.getD_eq_getElem?_getD, List.getElem?_eq_getElem h]
  cases e : ms[j]
  · simp
  · have : 0 < ms.count true := List.count_pos_iff.2 (e ▸ List.getElem_mem h)
    simp
    omega

theorem count_set_false {ms : List Bool} {j : Nat} (h : ms[j]? = some true) : (ms.set j false).count true + 1 = ms.count true := by
  obtain ⟨hl, e⟩ := List.getElem?_eq_some_iff.1 h
  have : 0 < ms.count true := List.count_pos_iff.2 (e ▸ List.getElem_mem hl)
  rw [List.count_set hl, e]
  simp
  omega

theorem Told.none (len : Nat) : Told (.map []) (List.replicate len false) := by
  refine ⟨fun c => ?_, fun c hc => ?_, ?_⟩
  · rw [List.getD_eq_getElem?_getD, List.getElem?_replicate]
    split <;> rfl
  · rw [List.getElem?_replicate] at hc
    split at hc <;> cases hc
  · rw [count_none]; rfl

theorem Told.put {D : DataW Unit} {ms : List Bool} (h : Told D ms) (ht : Tidy D) {j : Nat} (hj : j < ms.length) : Told (D.put (KI j) (.lit (.bool true))) (ms.set j true) := by
  refine ⟨fun c => ?_, fun c hc => ?_, ?_⟩
  · by_cases e : c = j
    · subst e
      rw [has_put_same ht.isMap (show WideAt.IsKeyLit (KI c) from trivial), List.getD_eq_getElem?_getD, List.getElem?_set_self hj]; rfl
    · rw [has_put_other (KI_ne e), h.has_, List.getD_eq_getElem?_getD, List.getD_eq_getElem?_getD, List.getElem?_set_ne (Ne.symm e)]
  · by_cases e : c = j
    · subst e
      exact atKey_put_same ht.isMap (show WideAt.IsKeyLit (KI c) from trivial) _ _
    · rw [List.getElem?_set_ne (Ne.symm e)] at hc
      rw [atKey_put_other (KI_ne e)]
      exact h.at_ c hc
  · rw [size_put ht, h.has_, h.size_, count_set_true hj]

theorem owns_frm {S : Nat → Prop} {w w' : World} {B n : Nat} {D : DataW Unit} (h : w.ownsMap Try.prog 3 (plainElem Try.prog 4) B n D) (f : Frm S w w') (hb : ¬ S B) : w'.ownsMap Try.prog 3 (plainElem Try.prog 4) B n D := by
  have hl := h.lt
  obtain ⟨es, clock, hB, r⟩ := h
  exact ⟨es, clock, (f.block B hl hb).trans hB, r⟩

/-- Marks and a map beside them, both made since w0. -/
structure Two (w0 w : World) (b mb B : Nat) (ms : List Bool) (n : Nat) (D : DataW Unit) : Prop where
  ses : Ses w0 w b mb 0 1000 10 ms
  map : w.ownsMap Try.prog 3 (plainElem Try.prog 4) B n D
  ne : B ≠ mb
  ne2 : B ≠ b
  ge : w0.heap.size ≤ B

section
variable {w0 w w' : World} {b mb B n : Nat} {ms ks : List Bool} {D D' : DataW Unit}
theorem Two.keep (h : Two w0 w b mb B ms n D) (k : Below w.heap.size w w') : Two w0 w' b mb B ms n D :=
  ⟨h.ses.keep k, owns_frm (S := fun _ => False) h.map (Frm.of_below k) (fun e => e), h.ne, h.ne2, h.ge⟩
theorem Two.step (h : Two w0 w b mb B ms n D) (k : Tn b mb 0 1000 10 ks w w') : Two w0 w' b mb B ks n D :=
  ⟨h.ses.step k, owns_frm h.map k.frm h.ne, h.ne, h.ne2, h.ge⟩
theorem Two.put {m : Nat} (h : Two w0 w b mb B ms n D) (hm : w'.ownsMap Try.prog 3 (plainElem Try.prog 4) B m D') (hg : w.grownBy w' (some B)) : Two w0 w' b mb B ms m D' := by
  have i := h.ses.is
  refine ⟨⟨{ i with blk := (hg.block b i.lt (fun e => h.ne2 (by injection e with e; exact e.symm))).trans i.blk, row := (hg.block mb i.lt2 (fun e => h.ne (by injection e with e; exact e.symm))).trans i.row }, ?_, h.ses.ge⟩, hm, h.ne, h.ne2, h.ge⟩
  exact h.ses.old.trans ⟨hg.os, hg.tape, hg.output, hg.size, fun k hk => hg.block k (Nat.lt_of_lt_of_le hk h.ses.old.size) (fun e => by have := h.ge; injection e with e; omega)⟩
end

/-- What the second loop carries on. -/
def LastR (D : DataW Unit) (ms : List Bool) (i : Nat) (l : Int) : Prop :=
  (∀ j : Nat, (j : Int) ≤ l → ms[j]? ≠ some true) ∧ (∀ c, ms[c]? = some true → D.atKey (KI c) (.lit (.bool false)) = .lit (.bool true)) ∧ ms.count true + i ≤ 100 ∧ ms.length = 100

theorem LastR.next {D : DataW Unit} {ms : List Bool} {i j : Nat} {l : Int} (h : LastR D ms i l) (hj : ms[j]? = some true) (hf : ∀ i : Nat, (0 : Int) ≤ i → i < j → ms[i]? = some false) : LastR D (ms.set j false) (i + 1) j := by
  obtain ⟨_, h2, h3, h4⟩ := h
  have hl := (List.getElem?_eq_some_iff.1 hj).1
  refine ⟨fun k hk => ?_, fun c hc => ?_, ?_, by rw [List.length_set]; exact h4⟩
  · by_cases e : k = j
    · subst e; rw [List.getElem?_set_self hl]; intro e; cases e
    · rw [List.getElem?_set_ne (Ne.symm e), hf k (by omega) (by omega)]; intro e; cases e
  · by_cases e : c = j
    · subst e; rw [List.getElem?_set_self hl] at hc; cases hc
    · rw [List.getElem?_set_ne (Ne.symm e)] at hc; exact h2 c hc
  · have := count_set_false hj
    omega

theorem count_zero {ms : List Bool} (h : ∀ i : Nat, (0 : Int) ≤ i → ms[i]? ≠ some true) : ms.count true = 0 := by
  rw [List.count_eq_zero]
  intro hm
  obtain ⟨i, hi, e⟩ := List.getElem_of_mem hm
  exact h i (by omega) (by rw [List.getElem?_eq_getElem hi, e])

set_option maxHeartbeats 8000000 in
set_option maxRecDepth 100000 in
theorem cardTimes_walk (A : Option Addr) (n c : Nat) (w : World) (rd : RdN .u16 0 65535 w A n) (hn : n ≤ c) (hc : c ≤ maxLen) :
    Calls Try.prog 6 #[.slice A n c] w fun e w' => e = .returned (.bool true) ∧ Below w.heap.size w w' := by
  have nm : n ≤ 9223372036854775807 := by simp only [maxLen] at hc; omega
  have RD := Lib.hid rd
  clear rd hc hn
  have hmm := @run_makeMap Try.prog
  go_enter Try.func6, Try.ntmps6
  go_wp2_with fail
  refine (cNew_any 0 1000 10 w).mono ?_
  rintro e w1 ⟨b, mb, rfl, g1, g2, ⟨N, hN, i1⟩, b1⟩
  obtain rfl : N = 100 := by have h3 : (N : Int) = 100 := hN; omega
  clear hN
  have HS : Hid (Two w (w1.alloc (.map #[] 0)) b mb w1.heap.size (List.replicate 100 false) 0 (.map [])) :=
    Lib.hid ⟨Ses.keep ⟨i1, b1, g1, g2⟩ ((Below.refl _ _).alloc (Nat.le_refl _) _), World.ownsMap_made _ _ _ _, by have := i1.lt2; omega, by have := i1.lt; omega, b1.size⟩
  clear i1 b1 g1 g2
  go_wp2_with fail
  generalize w1.heap.size = B at HS ⊢
  go_loopw [5] (fun s wr => ∃ (i : Nat) (ms : List Bool) (D : DataW Unit), i ≤ n ∧ i ≤ 100 ∧ s = .int .i64 i ∧ Hid (Two w wr b mb B ms i D) ∧ Hid (Told D ms ∧ ms.length = 100)) (fun s _ => 100 - (intOf s).toNat)
  case atStart => exact ⟨0, _, _, Nat.zero_le _, by omega, rfl, HS, Lib.hid ⟨Told.none 100, by simp⟩⟩
  case round =>
    clear HS
    obtain ⟨i, ms, D, hin, hi4, rfl, HS, HT⟩ := hrel
    by_cases ilt : i < n ∧ i < 100
    · obtain ⟨il, i4⟩ := ilt
      obtain ⟨ad, x, rfl, x0, x1, rc⟩ := RD.out i il
      have RC := Lib.hid rc
      clear rc
      have r0 := RC.out _ HS.out.ses.old
      obtain ⟨X, hX⟩ : ∃ X, x % 1000 = X := ⟨_, rfl⟩
      have hX2 : x.tmod 1000 = X := by rw [← hX]; exact Int.tmod_eq_emod_of_nonneg x0
      have y0 : 0 ≤ X := by omega
      have y1 : X ≤ 999 := by omega
      obtain ⟨j, hj⟩ : ∃ j : Nat, X / 10 = j := ⟨(X / 10).toNat, by omega⟩
      have hj2 : X.tdiv 10 = j := by rw [← hj]; exact Int.tdiv_eq_ediv_of_nonneg y0
      have HJ := Lib.hid (show (X - 0) / 10 = j by rw [Int.sub_zero]; exact hj)
      have jl : j < 100 := by omega
      go_wp2_with fail
      refine (cMark_yes b mb 0 1000 10 _ _ X j HS.out.ses.is (by omega) (by omega) HJ.out).mono ?_
      rintro e w3 ⟨rfl, t1⟩
      have HS := Lib.hid (HS.out.step t1)
      clear r0 t1
      go_wp2_with fail
      refine (cMark_yes b mb 0 1000 10 _ _ X j HS.out.ses.is (by omega) (by omega) HJ.out).mono ?_
      rintro e w4 ⟨rfl, t1⟩
      have HS := HS.out.step t1
      rw [List.set_set] at HS
      have HS := Lib.hid HS
      have TD := Lib.hid (HS.out.map.tidy lawI)
      clear t1
      go_wp2_with (first | (at_mapUpdate; refine wpList_mapUpdate_own _ rfl _ _ _ 41 rfl 3 4 lawI Try.underlying41 _ B i _ rfl HS.out.map (by unfold maxLen; omega) _ _ _ rfl rfl (keyI j (by omega)) _ [] (plainElem_bool Try.underlying4 true) ?_; intro w5 o5 g5) | go_in)
      have HS := Lib.hid (HS.out.put o5 g5)
      have N1 := Lib.hid (show Told (D.put (KI j) (.lit (.bool true))) (ms.set j true) ∧ (ms.set j true).length = 100 from ⟨HT.out.1.put TD.out (by rw [HT.out.2]; exact jl), by rw [List.length_set]; exact HT.out.2⟩)
      clear o5 g5
      go_wp2
      go_roundw
      case rel => exact ⟨i + 1, _, _, by omega, by omega, by go_num, HS, N1⟩
      case measure => simp [intOf]; omega
    · have hlen := HS.out.map.len Try.underlying41 3
      have hsz := HT.out.1.size_
      rw [hsz] at hlen
      clear hsz
      have L0 : Hid (LastR D ms 0 (-1)) := Lib.hid ⟨fun j hj => by omega, HT.out.1.at_, by have := List.count_le_length (a := true) (l := ms); have := HT.out.2; omega, HT.out.2⟩
      have hcl : ms.count true ≤ 100 := by have := L0.out.2.2.1; omega
      by_cases hin2 : i < n
      all_goals
        try have h40 : ¬ i < 100 := by omega
        go_wp2_with fail
        refine (cCount_any b mb 0 1000 10 _ _ HS.out.ses.is).mono ?_
        rintro e w2 ⟨rfl, rfl⟩
        go_wp2_with fail
        clear hlen
        go_loopw [7, 8] (fun s7 s8 wr => ∃ (k : Nat) (l : Int) (ks : List Bool), k ≤ 100 ∧ s8 = .int .i64 k ∧ s7 = .int .i64 l ∧ Hid (Two w wr b mb B ks i D) ∧ Hid (LastR D ks k l)) (fun _ s _ => 100 - (intOf s).toNat)
        case atStart => exact ⟨0, -1, ms, by omega, rfl, rfl, HS, L0⟩
        case round =>
          clear HS L0
          obtain ⟨k, l, ks, hk, rfl, rfl, HS, HL⟩ := hrel
          go_wp2_with fail
          refine (cFirst_any b mb 0 1000 10 _ _ 0 HS.out.ses.is (by omega)).mono ?_
          rintro e w3 ⟨r, ok, he, hf, rfl⟩
          rcases hf with ⟨j, rfl, rfl, j0, j1, j2⟩ | ⟨rfl, rfl, j1⟩
          · subst he
            have hj100 : j < 100 := by have := (List.getElem?_eq_some_iff.1 j1).1; have := HL.out.2.2.2; omega
            have hjl : ¬ (j : Int) ≤ l := fun e => HL.out.1 j e j1
            have hk1 : k < 100 := by
              have h1 := HL.out.2.2.1
              have h2 : 0 < ks.count true := List.count_pos_iff.2 (List.mem_of_getElem? j1)
              omega
            have hlk := look_bool HS.out.map (c := j) (by omega) (HL.out.2.1 j j1)
            have N1 := Lib.hid (HL.out.next j1 j2)
            have J1 := Lib.hid j1
            clear j1 j2
            go_wp2_with fail
            refine (cClear_yes b mb 0 1000 10 _ _ j true HS.out.ses.is J1.out).mono ?_
            rintro e w4 ⟨rfl, t1⟩
            have HS := Lib.hid (HS.out.step t1)
            clear t1 hlk
            go_wp2
            go_roundw
            case rel => exact ⟨k + 1, j, _, by omega, by go_num, rfl, HS, N1⟩
            case measure => simp [intOf]; omega
          · subst he
            have CZ := Lib.hid (count_zero j1)
            clear j1
            go_wp2_with fail
            refine (awake_any _).mono ?_
            rintro e w4 ⟨rfl, b1⟩
            have HS := Lib.hid (HS.out.keep b1)
            clear b1
            go_wp2_with fail
            refine (cCount_any b mb 0 1000 10 _ _ HS.out.ses.is).mono ?_
            rw [CZ.out]
            rintro e w5 ⟨he, rfl⟩
            obtain rfl : e = .returned (.int .i64 0) := he
            go_wp2
            go_ret
            exact ⟨rfl, HS.out.ses.old⟩
end Go.Proofs.Ytckmijhmjnhfaaa
