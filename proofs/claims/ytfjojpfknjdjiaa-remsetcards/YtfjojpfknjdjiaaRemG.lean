/- A set and a map beside it; the walk of RemsetCards. -/
import Derived.Test.YtfjojpfknjdjiaaRemF
import Derived.Test.YtfjojpfknjdjiaaMapB
namespace Go.Proofs.Ytfjojpfknjdjiaa
open Go.RowKit Go.Maps

/-- A set of 16 cards of 16 words without a buffer, and a map beside it. -/
structure Tw (w0 w : World) (s B : Nat) (ms ns : List Bool) (n : Nat) (D : DataW Unit) : Prop where
  rz : Rz w0 w (· = B) s 0 0 256 16 [] ms [] ns
  map : w.ownsMap Try.prog 3 (plainElem Try.prog 4) B n D

section
variable {w0 w w' : World} {s B n : Nat} {ms ns ks js : List Bool} {D D' : DataW Unit}
theorem Tw.step (h : Tw w0 w s B ms ns n D) (r : Rz w0 w' (· = B) s 0 0 256 16 [] ks [] js) (k : Kp (· = B) w w') : Tw w0 w' s B ks js n D :=
  ⟨r, owns_frm h.map k fun e => e rfl⟩
theorem Tw.keep (h : Tw w0 w s B ms ns n D) (f : Below w.heap.size w w') : Tw w0 w' s B ms ns n D := h.step (h.rz.keep f) (Kp.of_below f)
theorem Tw.put {m : Nat} (h : Tw w0 w s B ms ns n D) (hm : w'.ownsMap Try.prog 3 (plainElem Try.prog 4) B m D') (hg : w.grownBy w' (some B)) : Tw w0 w' s B ms ns m D' :=
  ⟨h.rz.write (S := (· = B)) ⟨hg.os, hg.tape, hg.output, hg.size, fun k hk hn => hg.block k hk (fun e => hn (Option.some.inj e))⟩ (fun _ _ e => e) (fun _ e => .inl e), hm⟩
end

/-- What the second loop carries on. -/
def LastC (D : DataW Unit) (ms : List Bool) (N i : Nat) (l : Int) : Prop :=
  (∀ j : Nat, (j : Int) * 16 ≤ l → ms[j]? ≠ some true) ∧ (∀ c, ms[c]? = some true → D.atKey (KI c) (.lit (.bool false)) = .lit (.bool true)) ∧ ms.count true + i = N ∧ ms.length = 16

theorem LastC.next {D : DataW Unit} {ms : List Bool} {N i j : Nat} {l : Int} (h : LastC D ms N i l) (hj : ms[j]? = some true) (hf : ∀ i : Nat, i < j → ms[i]? = some false) : LastC D (ms.set j false) N (i + 1) ((j : Int) * 16) := by
  obtain ⟨_, h2, h3, h4⟩ := h
  have hl := (List.getElem?_eq_some_iff.1 hj).1
  refine ⟨fun k hk => ?_, fun c hc => ?_, ?_, by rw [List.length_set]; exact h4⟩
  · by_cases e : k = j
    · subst e; rw [List.getElem?_set_self hl]; intro e; cases e
    · rw [List.getElem?_set_ne (Ne.symm e), hf k (by omega)]; intro e; cases e
  · by_cases e : c = j
    · subst e; rw [List.getElem?_set_self hl] at hc; cases hc
    · rw [List.getElem?_set_ne (Ne.symm e)] at hc; exact h2 c hc
  · have := count_set_false hj
    omega

theorem end16 {j : Nat} (h : j < 16) : endI 0 256 16 (j : Int) = (j : Int) * 16 + 16 := by unfold endI; split <;> omega

set_option maxHeartbeats 8000000 in
set_option maxRecDepth 100000 in
theorem remsetCards_walk (A : Option Addr) (n c : Nat) (w : World) (rd : RdN .u8 0 255 w A n) (hn : n ≤ c) (hc : c ≤ maxLen) :
    Calls Try.prog 7 #[.slice A n c] w fun e w' => e = .returned (.bool true) ∧ Below w.heap.size w w' := by
  have nm : n ≤ 9223372036854775807 := by simp only [maxLen] at hc; omega
  have RD := Lib.hid rd
  clear rd hc hn
  have hmm := @run_makeMap Try.prog
  go_enter Try.func7, Try.ntmps7
  go_wp2_with fail
  refine (rz_new (Z := noZ) 0 256 16 0 (Below.refl _ w) (fun k hk => hk.elim)).mono ?_
  rintro e w1 ⟨s, rfl, r, _⟩
  have HS : Hid (Tw w (w1.alloc (.map #[] 0)) s w1.heap.size (List.replicate 16 false) (List.replicate 16 false) 0 (.map [])) :=
    Lib.hid ⟨Rz.grow (Z := noZ) r ((Below.refl _ _).alloc (Nat.le_refl _) _) (fun k hk => .inr (by subst hk; simp)), World.ownsMap_made _ _ _ _⟩
  clear r
  unfold ptr
  go_upto_block 0 with (fail)
  generalize w1.heap.size = B at HS ⊢
  go_cut [5] (fun t wc => ∃ (i : Nat) (ns : List Bool) (D : DataW Unit), t = .int .i64 i ∧ Hid (Tw w wc s B (List.replicate 16 false) ns i D) ∧ Hid (Told D ns ∧ ns.length = 16))
  case first =>
    go_wp2_with fail
    go_loopw [5] (fun t wr => ∃ (i : Nat) (ns : List Bool) (D : DataW Unit), i ≤ n ∧ i ≤ 80 ∧ t = .int .i64 i ∧ Hid (Tw w wr s B (List.replicate 16 false) ns i D) ∧ Hid (Told D ns ∧ ns.length = 16)) (fun t _ => 80 - (intOf t).toNat)
    case atStart => exact ⟨0, _, _, Nat.zero_le _, by omega, rfl, HS, Lib.hid ⟨Told.none 16, by simp⟩⟩
    case round =>
      clear HS
      obtain ⟨i, ns, D, hin, hi6, rfl, HS, HT⟩ := hrel
      by_cases il : i < n
      · by_cases i6 : i < 80
        · obtain ⟨ad, x, rfl, x0, x1, rc⟩ := RD.out i il
          have RC := Lib.hid rc
          have r0 := RC.out _ HS.out.rz.bel
          obtain ⟨j, hj⟩ : ∃ j : Nat, x / 16 = j := ⟨(x / 16).toNat, by omega⟩
          have hj2 : x.tdiv 16 = j := by rw [← hj]; exact Int.tdiv_eq_ediv_of_nonneg x0
          have HJ := Lib.hid (show (x - 0) / 16 = j by rw [Int.sub_zero]; exact hj)
          have jl : j < 16 := by omega
          clear rc hj
          go_wp2_with fail
          refine (rz_add_mark x j HS.out.rz (by omega) (by omega) (by decide) HJ.out).mono ?_
          rintro e w3 ⟨rfl, r, k⟩
          have HS := Lib.hid (HS.out.step r k)
          have TD := Lib.hid (HS.out.map.tidy lawI)
          clear r k r0
          have r0 := RC.out _ HS.out.rz.bel
          go_wp2_with (first | (at_mapUpdate; refine wpList_mapUpdate_own _ rfl _ _ _ 43 rfl 3 4 lawI Try.underlying43 _ B i _ rfl HS.out.map (by unfold maxLen; omega) _ _ _ rfl rfl (keyI j (by omega)) _ [] (plainElem_bool Try.underlying4 true) ?_; intro w5 o5 g5) | go_in)
          have HS := Lib.hid (HS.out.put o5 g5)
          have N1 := Lib.hid (show Told (D.put (KI j) (.lit (.bool true))) (ns.set j true) ∧ (ns.set j true).length = 16 from ⟨HT.out.1.put TD.out (by rw [HT.out.2]; exact jl), by rw [List.length_set]; exact HT.out.2⟩)
          clear o5 g5 r0
          go_wp2
          go_roundw
          case rel => exact ⟨i + 1, _, _, by omega, by omega, by go_num, HS, N1⟩
          case measure => simp [intOf]; omega
        · obtain rfl : i = 80 := by omega
          go_wp2
          go_meet
          case rel => exact ⟨80, ns, D, rfl, HS, HT⟩
      · go_wp2
        go_meet
        case rel => exact ⟨i, ns, D, rfl, HS, HT⟩
  case rest =>
    as_aux_lemma =>
    clear HS RD
    obtain ⟨i, ns, D, rfl, HS, HT⟩ := hcut
    obtain ⟨N, hN⟩ : ∃ N, ns.count true = N := ⟨_, rfl⟩
    have NM : N ≤ 16 := by have := List.count_le_length (a := true) (l := ns); have := HT.out.2; omega
    have L0 : Hid (LastC D ns N 0 (-1)) := Lib.hid ⟨fun j hj => by omega, HT.out.1.at_, by omega, HT.out.2⟩
    have SZ := Lib.hid (show size D = N by rw [HT.out.1.size_, hN])
    have HN := Lib.hid hN
    clear hN HT
    go_wp2_with fail
    refine (rz_len HS.out.rz).mono ?_
    rw [HN.out]
    rintro e w2 ⟨he, r, k⟩
    obtain rfl : e = .returned (.int .i64 N) := by rw [he]; simp
    have HS := Lib.hid (HS.out.step r k)
    clear r k HN
    have hlen := HS.out.map.len Try.underlying43 3
    rw [SZ.out] at hlen
    go_wp2_with fail
    refine (rz_flip_yes HS.out.rz (by decide)).mono ?_
    rintro e w3 ⟨rfl, r, k⟩
    have HS : Hid (Tw w w3 s B ns (List.replicate 16 false) i D) := Lib.hid (HS.out.step r k)
    clear r k hlen
    go_wp2_with fail
    go_loopw [6, 7] (fun s6 s7 wr => ∃ (k : Nat) (l : Int) (ks : List Bool), k ≤ N ∧ s7 = .int .i64 k ∧ s6 = .int .i64 l ∧ Hid (Tw w wr s B ks (List.replicate 16 false) i D) ∧ Hid (LastC D ks N k l)) (fun _ t _ => N - (intOf t).toNat)
    case atStart => exact ⟨0, -1, ns, by omega, rfl, rfl, HS, L0⟩
    case round =>
      clear HS L0
      obtain ⟨k, l, ks, hk, rfl, rfl, HS, HL⟩ := hrel
      have hlen := HS.out.map.len Try.underlying43 3
      rw [SZ.out] at hlen
      by_cases kl : k < N
      · obtain ⟨j, hjl, hj, hf⟩ := first_true (ms := ks) (by have := HL.out.2.2.1; omega)
        have j16 : j < 16 := by have := HL.out.2.2.2; omega
        have hll : ¬ (j : Int) * 16 ≤ l := fun e => HL.out.1 j e hj
        have N1 := HL.out.next hj hf
        have hat := HL.out.2.1 j hj
        have HJ := Lib.hid hj
        have HF := Lib.hid hf
        have HE := Lib.hid (end16 j16)
        obtain ⟨L, hL⟩ : ∃ L, (j : Int) * 16 = L := ⟨_, rfl⟩
        rw [hL] at hll N1
        have HL2 := Lib.hid hL
        have N1 := Lib.hid N1
        have hd : L.tdiv 16 = j := by rw [← hL]; exact Int.mul_tdiv_cancel _ (by omega)
        have hm : L.tmod 16 = 0 := by rw [← hL]; exact Int.mul_tmod_left _ _
        have L0 : 0 ≤ L := by omega
        have L1 : L ≤ 240 := by omega
        clear hL hj hf HL
        go_wp2_with fail
        clear hlen
        refine (rz_next_card j HS.out.rz HJ.out HF.out).mono ?_
        rw [HE.out, HL2.out, Int.zero_add]
        rintro e w4 ⟨rfl, r, kp⟩
        have HS := Lib.hid (HS.out.step r kp)
        have hlk := look_bool HS.out.map (c := j) (by omega) hat
        clear r kp hat
        go_wp2
        go_roundw
        case rel => exact ⟨k + 1, L, _, by omega, by go_num, rfl, HS, N1⟩
        case measure => simp [intOf]; omega
      · obtain rfl : k = N := by omega
        have H0 := Lib.hid (show ([] : List Int).length + ks.count true = 0 by have := HL.out.2.2.1; simp; omega)
        clear HL
        go_wp2_with fail
        clear hlen
        refine (rz_next_none HS.out.rz H0.out).mono ?_
        rintro e w4 ⟨rfl, r, kp⟩
        have HS := Lib.hid (HS.out.step r kp)
        clear r kp
        go_wp2_with fail
        refine (rAwake_walk _).mono ?_
        rintro e w5 ⟨rfl, b1⟩
        have HS := Lib.hid (HS.out.keep b1)
        clear b1
        go_wp2
        go_ret
        exact ⟨rfl, HS.out.rz.bel⟩
end Go.Proofs.Ytfjojpfknjdjiaa
