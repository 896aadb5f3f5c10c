/- What a set answers, said of all cases at once; the walk of RemsetLater. -/
import Derived.Test.YtfjojpfknjdjiaaRemE
import Derived.Test.YtfjojpfknjdjiaaNums
import Derived.Deep.DeepCutAuto
import Derived.Deep.CutBlock
namespace Go.Proofs.Ytfjojpfknjdjiaa
open Go.RowKit

theorem cutI_id {n l m : Int} (h : l ≤ n) (k : n ≤ m) : cutI n l m = n := by unfold cutI; split <;> (try split) <;> omega

/-- A set mark is taken away. -/
theorem count_clear {ms : List Bool} {j : Nat} (h : ms[j]? = some true) : (ms.set j false).count true + 1 = ms.count true := by
  induction ms generalizing j with
  | nil => simp at h
  | cons x ms ih =>
    cases j with
    | zero => simp at h; subst h; simp
    | succ j => rw [List.set_cons_succ, List.count_cons, List.count_cons]; have := ih (j := j) (by simpa using h); omega

section
variable {w0 w : World} {Z : Nat → Prop} {s : Nat} {M F W C : Int} {xs ys : List Int} {ms ns : List Bool}

/-- One more place: in the buffer, or by its card. -/
def AddA (M F C x : Int) (ys : List Int) (ns : List Bool) (ys' : List Int) (ns' : List Bool) : Prop :=
  ((ys.length : Int) < M ∧ ys' = ys ++ [x] ∧ ns' = ns) ∨ (M ≤ ys.length ∧ ys' = ys ∧ ns' = ns.set ((x - F) / C).toNat true)

theorem rz_add_in (x : Int) (h : Rz w0 w Z s M F W C xs ms ys ns) (x0 : F ≤ x) (x1 : x < F + W) :
    Calls Try.prog 11 #[ptr s, .int .i64 x] w fun e w' => e = .returned (.bool true) ∧ ∃ ys' ns', Rz w0 w' Z s M F W C xs ms ys' ns' ∧ AddA M F C x ys ns ys' ns' ∧ Kp Z w w' := by
  by_cases hn : (ys.length : Int) < M
  · exact (rz_add_put x h x0 x1 hn).mono fun e w' ⟨he, hr, hk⟩ => ⟨he, _, _, hr, .inl ⟨hn, rfl, rfl⟩, hk⟩
  · have := (h.at_ x0 x1).1
    exact (rz_add_mark x ((x - F) / C).toNat h x0 x1 (by omega) (by omega)).mono fun e w' ⟨he, hr, hk⟩ => ⟨he, _, _, hr, .inr ⟨by omega, rfl, rfl⟩, hk⟩

/-- What is told next: a place of the buffer, or the first card. -/
def NextA (F W C : Int) (xs : List Int) (ms : List Bool) (a b : Int) (part : Bool) (xs' : List Int) (ms' : List Bool) : Prop :=
  (∃ x, xs = x :: xs' ∧ a = x ∧ b = x + 1 ∧ part = false ∧ ms' = ms) ∨
  (∃ j : Nat, xs = [] ∧ xs' = [] ∧ ms[j]? = some true ∧ (∀ i : Nat, i < j → ms[i]? = some false) ∧ a = F + j * C ∧ b = endI F W C j ∧ part = true ∧ ms' = ms.set j false)

theorem NextA.left {a b : Int} {part : Bool} {xs' : List Int} {ms' : List Bool} (h : NextA F W C xs ms a b part xs' ms') : xs'.length + ms'.count true + 1 = xs.length + ms.count true := by
  rcases h with ⟨x, rfl, _, _, _, rfl⟩ | ⟨j, rfl, rfl, hj, _, _, _, _, rfl⟩
  · simp; omega
  · have := count_clear hj; simp; omega

theorem rz_next_some (h : Rz w0 w Z s M F W C xs ms ys ns) (hn : 0 < xs.length + ms.count true) :
    Calls Try.prog 13 #[ptr s] w fun e w' => ∃ a b part, e = .returned (.tuple #[.int .i64 a, .int .i64 b, .bool part, .bool true]) ∧ ∃ xs' ms', Rz w0 w' Z s M F W C xs' ms' ys ns ∧ NextA F W C xs ms a b part xs' ms' ∧ Kp Z w w' := by
  cases xs with
  | cons x xs => exact (rz_next_buf x h).mono fun e w' ⟨he, hr, hk⟩ => ⟨_, _, _, he, _, _, hr, .inl ⟨x, rfl, rfl, rfl, rfl, rfl⟩, hk⟩
  | nil =>
    obtain ⟨j, hl, hj, hf⟩ := first_true (ms := ms) (by simpa using hn)
    exact (rz_next_card j h hj hf).mono fun e w' ⟨he, hr, hk⟩ => ⟨_, _, _, he, _, _, hr, .inr ⟨j, rfl, rfl, hj, hf, rfl, rfl, rfl, rfl⟩, hk⟩
end

/-- A set of 16 cards of 16 words. -/
abbrev Rl (w0 w : World) (s : Nat) (M : Int) (xs : List Int) (ms : List Bool) (ys : List Int) (ns : List Bool) : Prop := Rz w0 w noZ s M 0 256 16 xs ms ys ns

set_option maxHeartbeats 8000000 in
set_option maxRecDepth 100000 in
theorem remsetLater_walk (A : Option Addr) (n c : Nat) (A2 : Option Addr) (n2 c2 : Nat) (m : Int) (m0 : 0 ≤ m) (w : World) (rd : RdN .u8 0 255 w A n) (hn : n ≤ c) (hc : c ≤ maxLen) (rd2 : RdN .u8 0 255 w A2 n2) (hn2 : n2 ≤ c2) (hc2 : c2 ≤ maxLen) :
    Calls Try.prog 6 #[.slice A n c, .slice A2 n2 c2, .int .u8 m] w fun e w' => e = .returned (.bool true) ∧ Below w.heap.size w w' := by
  have nm : n ≤ 9223372036854775807 := by simp only [maxLen] at hc; omega
  have nm2 : n2 ≤ 9223372036854775807 := by simp only [maxLen] at hc2; omega
  have RD := Lib.hid rd
  have RD2 := Lib.hid rd2
  clear rd hc hn rd2 hc2 hn2
  obtain ⟨M, hM, M0, M1⟩ : ∃ M, m % 9 = M ∧ 0 ≤ M ∧ M < 9 := ⟨_, rfl, Int.emod_nonneg _ (by omega), Int.emod_lt_of_pos _ (by omega)⟩
  have hM2 : m.tmod 9 = M := by rw [← hM]; exact Int.tmod_eq_emod_of_nonneg m0
  have hw8 : IntKind.u8.wrap M = M := by rw [IntWalk.u8_in _ (by omega)]
  have hwi : IntKind.i64.wrap M = M := IntWalk.i64_in _ (by omega)
  have HM := Lib.hid (cutI_id (n := M) (l := 0) (m := 1048576) (by omega) (by omega))
  clear hM
  go_enter Try.func6, Try.ntmps6
  go_wp2_with fail
  refine (rz_new (Z := noZ) 0 256 16 M (Below.refl _ w) (fun k hk => hk.elim)).mono ?_
  rintro e w1 ⟨s, rfl, r, _⟩
  rw [HM.out] at r
  have H : Hid (∃ ys ns, Rl w w1 s M [] (List.replicate 16 false) ys ns) := Lib.hid ⟨_, _, r⟩
  clear r
  unfold ptr
  go_upto_block 0 with (fail)
  go_cut [8] (fun t wc => ∃ i : Nat, t = .int .i64 i ∧ Hid (∃ ys ns, Rl w wc s M [] (List.replicate 16 false) ys ns))
  case first =>
    go_wp2_with fail
    go_loopw [8] (fun t wr => ∃ (i : Nat), i ≤ n ∧ i ≤ 60 ∧ t = .int .i64 i ∧ Hid (∃ ys ns, Rl w wr s M [] (List.replicate 16 false) ys ns)) (fun t _ => 60 - (intOf t).toNat)
    case atStart => exact ⟨0, Nat.zero_le _, by omega, rfl, H⟩
    case round =>
      clear H
      obtain ⟨i, hin, hi6, rfl, H⟩ := hrel
      by_cases il : i < n
      · by_cases i6 : i < 60
        · obtain ⟨ad, x, rfl, x0, x1, rc⟩ := RD.out i il
          obtain ⟨ys, ns, hr⟩ := H.out
          have r0 := rc _ hr.bel
          have HR := Lib.hid hr
          clear rc H hr
          go_wp2_with fail
          refine (rz_add_in x HR.out (by omega) (by omega)).mono ?_
          rintro e w2 ⟨rfl, ys', ns', hr, _, _⟩
          have H := Lib.hid (show ∃ ys ns, Rl w w2 s M [] (List.replicate 16 false) ys ns from ⟨_, _, hr⟩)
          clear r0 hr HR
          go_wp2
          go_roundw
          case rel => exact ⟨i + 1, by omega, by omega, by go_num, H⟩
          case measure => simp [intOf]; omega
        · obtain rfl : i = 60 := by omega
          go_wp2
          go_meet
          case rel => exact ⟨60, rfl, H⟩
      · go_wp2
        go_meet
        case rel => exact ⟨i, rfl, H⟩
  case rest =>
    as_aux_lemma =>
    clear H RD
    obtain ⟨i, rfl, H⟩ := hcut
    obtain ⟨ys, ns, hr⟩ := H.out
    have HR := Lib.hid hr
    clear H hr
    go_wp2_with fail
    refine (rz_flip_yes HR.out (by decide)).mono ?_
    rintro e w2 ⟨rfl, hr, _⟩
    have HR : Hid (Rl w w2 s M ys ns [] (List.replicate 16 false)) := Lib.hid hr
    clear hr
    go_wp2_with fail
    refine (rz_left HR.out).mono ?_
    rintro e w3 ⟨rfl, hr, _⟩
    have HF := Lib.hid hr.facts
    obtain ⟨N, hN⟩ : ∃ N, ys.length + ns.count true = N := ⟨_, rfl⟩
    rw [hN]
    have NM : N ≤ 1048592 := by
      have h1 := HF.out.2.1.1
      have h2 := HF.out.2.2.1
      have h3 := List.count_le_length (a := true) (l := ns)
      omega
    have H : Hid (∃ xs ms us ks, Rl w w3 s M xs ms us ks ∧ xs.length + ms.count true = N) := Lib.hid ⟨_, _, _, _, hr, hN⟩
    clear HF hN hr HR
    go_upto_block 2 with (fail)
    go_cut [10] (fun t wc => ∃ i : Nat, t = .int .i64 i ∧ Hid (∃ xs ms us ks, Rl w wc s M xs ms us ks ∧ xs.length + ms.count true = N))
    case first =>
      go_wp2_with fail
      go_loopw [10] (fun t wr => ∃ (i : Nat), i ≤ n2 ∧ i ≤ 60 ∧ t = .int .i64 i ∧ Hid (∃ xs ms us ks, Rl w wr s M xs ms us ks ∧ xs.length + ms.count true = N)) (fun t _ => 60 - (intOf t).toNat)
      case atStart => exact ⟨0, Nat.zero_le _, by omega, rfl, H⟩
      case round =>
        clear H
        obtain ⟨i, hin, hi6, rfl, H⟩ := hrel
        by_cases il : i < n2
        · by_cases i6 : i < 60
          · obtain ⟨ad, x, rfl, x0, x1, rc⟩ := RD2.out i il
            obtain ⟨xs, ms, us, ks, hr, hN⟩ := H.out
            have r0 := rc _ hr.bel
            have HR := Lib.hid hr
            have HN := Lib.hid hN
            clear rc H hr hN
            go_wp2_with fail
            refine (rz_add_in x HR.out (by omega) (by omega)).mono ?_
            rintro e w2 ⟨rfl, ys', ns', hr, _, _⟩
            have H := Lib.hid (show ∃ xs ms us ks, Rl w w2 s M xs ms us ks ∧ xs.length + ms.count true = N from ⟨_, _, _, _, hr, HN.out⟩)
            clear r0 hr HR HN
            go_wp2
            go_roundw
            case rel => exact ⟨i + 1, by omega, by omega, by go_num, H⟩
            case measure => simp [intOf]; omega
          · obtain rfl : i = 60 := by omega
            go_wp2
            go_meet
            case rel => exact ⟨60, rfl, H⟩
        · go_wp2
          go_meet
          case rel => exact ⟨i, rfl, H⟩
    case rest =>
      as_aux_lemma =>
      clear H RD2
      obtain ⟨i, rfl, H⟩ := hcut
      obtain ⟨xs, ms, us, ks, hr, hN⟩ := H.out
      have HR := Lib.hid hr
      have HN := Lib.hid hN
      clear H hr hN
      go_wp2_with fail
      refine (rz_left HR.out).mono ?_
      rintro e w4 ⟨rfl, hr, _⟩
      rw [HN.out]
      have HR := Lib.hid hr
      clear hr
      go_wp2_with fail
      refine (rz_len HR.out).mono ?_
      rintro e w5 ⟨rfl, hr, _⟩
      have HR := Lib.hid hr
      obtain ⟨K, hK⟩ : ∃ K, us.length + ks.count true = K := ⟨_, rfl⟩
      rw [hK]
      have HK := Lib.hid hK
      clear hr hK
      go_wp2_with fail
      go_loopw [12] (fun t wr => ∃ (i : Nat), i ≤ N ∧ t = .int .i64 i ∧ Hid (∃ xs ms, Rl w wr s M xs ms us ks ∧ xs.length + ms.count true + i = N)) (fun t _ => N - (intOf t).toNat)
      case atStart => exact ⟨0, Nat.zero_le _, rfl, Lib.hid ⟨_, _, HR.out, HN.out⟩⟩
      case round =>
        clear HR HN
        obtain ⟨i, hin, rfl, H⟩ := hrel
        obtain ⟨xs, ms, hr, hN⟩ := H.out
        have HR := Lib.hid hr
        have HN := Lib.hid hN
        clear H hr hN
        by_cases il : i < N
        · go_wp2_with fail
          refine (rz_next_some HR.out (by have := HN.out; omega)).mono ?_
          rintro e w2 ⟨a, b, part, rfl, xs', ms', hr, na, _⟩
          have H := Lib.hid (show ∃ xs ms, Rl w w2 s M xs ms us ks ∧ xs.length + ms.count true + (i + 1) = N from ⟨_, _, hr, by have := HN.out; have := na.left; omega⟩)
          clear hr na HR HN
          go_wp2
          go_roundw
          case rel => exact ⟨i + 1, by omega, by go_num, H⟩
          case measure => simp [intOf]; omega
        · obtain rfl : i = N := by omega
          have H0 := Lib.hid (show xs.length + ms.count true = 0 by have := HN.out; omega)
          clear HN
          go_wp2_with fail
          refine (rz_next_none HR.out H0.out).mono ?_
          rintro e w2 ⟨rfl, hr, _⟩
          have HR := Lib.hid hr
          clear hr
          go_wp2_with fail
          refine (rAwake_walk _).mono ?_
          rintro e w3 ⟨rfl, b3⟩
          have HR := Lib.hid (HR.out.keep b3)
          clear b3
          go_wp2_with fail
          refine (rz_left HR.out).mono ?_
          rintro e w4 ⟨rfl, hr, _⟩
          rw [H0.out]
          have HR := Lib.hid hr
          clear hr
          go_wp2_with fail
          refine (rz_len HR.out).mono ?_
          rintro e w5 ⟨rfl, hr, _⟩
          rw [HK.out]
          have HR := Lib.hid hr
          clear hr
          go_wp2_with fail
          refine (rz_flip_yes HR.out H0.out).mono ?_
          rintro e w6 ⟨rfl, hr, _⟩
          have HR : Hid (Rl w w6 s M us ks [] (List.replicate 16 false)) := Lib.hid hr
          clear hr
          go_wp2_with fail
          refine (rz_left HR.out).mono ?_
          rintro e w7 ⟨rfl, hr, _⟩
          rw [HK.out]
          have HR := Lib.hid hr
          clear hr
          go_wp2_with fail
          refine (rz_len HR.out).mono ?_
          rintro e w8 ⟨he, hr, _⟩
          obtain rfl : e = .returned (.int .i64 0) := he
          have HR := Lib.hid hr
          clear hr
          go_wp2
          go_ret
          exact ⟨rfl, HR.out.bel⟩
end Go.Proofs.Ytfjojpfknjdjiaa
