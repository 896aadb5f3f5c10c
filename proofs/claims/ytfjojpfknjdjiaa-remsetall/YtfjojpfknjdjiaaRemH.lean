/- A set and counts beside it; the walk of RemsetAll. -/
import Derived.Test.YtfjojpfknjdjiaaRemP
namespace Go.Proofs.Ytfjojpfknjdjiaa
open Go.RowKit Go.Maps

/-- While places are taken in. -/
structure Al1 (w0 w : World) (s B : Nat) (M : Int) (ys : List Int) (ns : List Bool) (n : Nat) (f : Nat → Nat) : Prop where
  rz : Rz w0 w (· = B) s M 50 1000 32 [] (List.replicate 32 false) ys ns
  map : CntM w B n f
  tk : TakenA ys ns f

theorem Al1.add {w0 w w' w'' : World} {s B n c : Nat} {M : Int} {ys ys' : List Int} {ns ns' : List Bool} {f : Nat → Nat} (h : Al1 w0 w s B M ys ns n f) (c0 : 50 ≤ c) (c1 : c < 1050)
    (r : Rz w0 w' (· = B) s M 50 1000 32 [] (List.replicate 32 false) ys' ns') (a : AddA M 50 32 c ys ns ys' ns') (m : CntM w'' B (n + 1) (bump f c)) (g : Frm (· = B) w' w'') : Al1 w0 w'' s B M ys' ns' (n + 1) (bump f c) :=
  ⟨r.write (S := (· = B)) g (fun _ _ e => e) (fun _ e => .inl e), m, h.tk.add a (by
    have := h.rz.at_ (x := (c : Int)) (by omega) (by omega)
    omega)⟩

/-- The two maps. -/
abbrev zz (B1 B2 : Nat) : Nat → Prop := fun k => k = B1 ∨ k = B2

/-- While places are told. -/
structure Al2 (w0 w : World) (s B1 B2 : Nat) (M : Int) (xs : List Int) (ms : List Bool) (n1 n2 : Nat) (f g : Nat → Nat) : Prop where
  rz : Rz w0 w (zz B1 B2) s M 50 1000 32 xs ms [] (List.replicate 32 false)
  m1 : CntM w B1 n1 f
  m2 : CntM w B2 n2 g
  ne : B1 ≠ B2

section
variable {w0 w w' : World} {s B1 B2 n1 n2 m : Nat} {M : Int} {xs xs' : List Int} {ms ms' : List Bool} {f g g' : Nat → Nat}
theorem Al2.step (h : Al2 w0 w s B1 B2 M xs ms n1 n2 f g) (r : Rz w0 w' (zz B1 B2) s M 50 1000 32 xs' ms' [] (List.replicate 32 false)) (k : Kp (zz B1 B2) w w') : Al2 w0 w' s B1 B2 M xs' ms' n1 n2 f g :=
  ⟨r, h.m1.frm k fun e => e (.inl rfl), h.m2.frm k fun e => e (.inr rfl), h.ne⟩
theorem Al2.keep (h : Al2 w0 w s B1 B2 M xs ms n1 n2 f g) (k : Below w.heap.size w w') : Al2 w0 w' s B1 B2 M xs ms n1 n2 f g := h.step (h.rz.keep k) (Kp.of_below k)
theorem Al2.count (h : Al2 w0 w s B1 B2 M xs ms n1 n2 f g) (c : CntM w' B2 m g') (k : Frm (· = B2) w w') : Al2 w0 w' s B1 B2 M xs ms n1 m f g' :=
  ⟨h.rz.write (S := (· = B2)) k (fun _ _ e => .inr e) (fun _ e => .inl e), h.m1.frm k h.ne, c, h.ne⟩
end

set_option maxHeartbeats 8000000 in
set_option maxRecDepth 100000 in
theorem remsetAll_walk (A : Option Addr) (n c : Nat) (m : Int) (m0 : 0 ≤ m) (w : World) (rd : RdN .u16 0 65535 w A n) (hn : n ≤ c) (hc : c ≤ maxLen) :
    Calls Try.prog 4 #[.slice A n c, .int .u8 m] w fun e w' => e = .returned (.bool true) ∧ Below w.heap.size w w' := by
  have nm : n ≤ 9223372036854775807 := by simp only [maxLen] at hc; omega
  have RD := Lib.hid rd
  clear rd hc hn
  obtain ⟨M, hM, M0, M1⟩ : ∃ M, m % 12 = M ∧ 0 ≤ M ∧ M < 12 := ⟨_, rfl, Int.emod_nonneg _ (by omega), Int.emod_lt_of_pos _ (by omega)⟩
  have hM2 : m.tmod 12 = M := by rw [← hM]; exact Int.tmod_eq_emod_of_nonneg m0
  have hw8 : IntKind.u8.wrap M = M := by rw [IntWalk.u8_in _ (by omega)]
  have hwi : IntKind.i64.wrap M = M := IntWalk.i64_in _ (by omega)
  have HM := Lib.hid (cutI_id (n := M) (l := 0) (m := 1048576) (by omega) (by omega))
  have hmm := @run_makeMap Try.prog
  clear hM
  go_enter Try.func4, Try.ntmps4
  go_wp2_with fail
  refine (rz_new (Z := noZ) 50 1000 32 M (Below.refl _ w) (fun k hk => hk.elim)).mono ?_
  rintro e w1 ⟨s, rfl, r, _⟩
  rw [HM.out] at r
  have HS : Hid (Al1 w (w1.alloc (.map #[] 0)) s w1.heap.size M [] (List.replicate 32 false) 0 (fun _ => 0)) :=
    Lib.hid ⟨Rz.grow (Z := noZ) r ((Below.refl _ _).alloc (Nat.le_refl _) _) (fun k hk => .inr (by subst hk; simp)), CntM.new _, TakenA.none _⟩
  clear r HM
  unfold ptr
  go_upto_block 0 with (fail)
  generalize w1.heap.size = B at HS ⊢
  go_cut [7] (fun t wc => ∃ (i k : Nat) (ys : List Int) (ns : List Bool) (f : Nat → Nat), t = .int .i64 i ∧ k ≤ 60 ∧ Hid (Al1 w wc s B M ys ns k f))
  case first =>
    go_wp2_with fail
    go_loopw [7] (fun t wr => ∃ (i k : Nat) (ys : List Int) (ns : List Bool) (f : Nat → Nat), i ≤ n ∧ i ≤ 60 ∧ k ≤ i ∧ t = .int .i64 i ∧ Hid (Al1 w wr s B M ys ns k f)) (fun t _ => 60 - (intOf t).toNat)
    case atStart => exact ⟨0, 0, _, _, _, Nat.zero_le _, by omega, by omega, rfl, HS⟩
    case round =>
      clear HS
      obtain ⟨i, k, ys, ns, f, hin, hi6, hk, rfl, HS⟩ := hrel
      by_cases il : i < n
      · by_cases i6 : i < 60
        · obtain ⟨ad, x, rfl, x0, x1, rc⟩ := RD.out i il
          have r0 := rc _ HS.out.rz.bel
          obtain ⟨d, hd⟩ : ∃ d : Nat, x % 1100 = d := ⟨(x % 1100).toNat, by omega⟩
          have hd2 : x.tmod 1100 = d := by rw [← hd]; exact Int.tmod_eq_emod_of_nonneg x0
          have d1 : d < 1100 := by omega
          clear rc hd
          by_cases lo : d < 50
          · go_wp2_with fail
            refine (rz_add_no (d : Int) HS.out.rz (by omega)).mono ?_
            rintro e w3 ⟨rfl, rfl⟩
            clear r0
            go_wp2
            go_roundw
            case rel => exact ⟨i + 1, k, _, _, _, by omega, by omega, by omega, by go_num, HS⟩
            case measure => simp [intOf]; omega
          · by_cases hi : d < 1050
            · have fk := HS.out.map.few d
              have z0 : (50 : Int) ≤ (d : Int) := by omega
              have z1 : (d : Int) < 1050 := by omega
              go_wp2_with fail
              refine (rz_add_in (d : Int) HS.out.rz (by omega) (by omega)).mono ?_
              rintro e w3 ⟨rfl, ys', ns', r, a, kp⟩
              have HR := Lib.hid r
              have HA := Lib.hid a
              have hm := HS.out.map.frm kp (fun e => e rfl)
              have hlk := hm.look (c := d) (by omega)
              have HC := Lib.hid hm
              clear r a kp hm r0
              go_wp2_with (first | (at_mapUpdate; refine wpList_count _ rfl _ _ _ rfl B k f rfl HC.out (by omega) d (by omega) rfl rfl ?_; intro w5 o5 g5) | go_in)
              have HS := Lib.hid (HS.out.add (by omega) hi HR.out HA.out o5 g5)
              clear o5 g5 hlk HC HA HR
              go_wp2
              go_roundw
              case rel => exact ⟨i + 1, k + 1, _, _, _, by omega, by omega, by omega, by go_num, HS⟩
              case measure => simp [intOf]; omega
            · go_wp2_with fail
              refine (rz_add_no (d : Int) HS.out.rz (by omega)).mono ?_
              rintro e w3 ⟨rfl, rfl⟩
              clear r0
              go_wp2
              go_roundw
              case rel => exact ⟨i + 1, k, _, _, _, by omega, by omega, by omega, by go_num, HS⟩
              case measure => simp [intOf]; omega
        · obtain rfl : i = 60 := by omega
          go_wp2
          go_meet
          case rel => exact ⟨60, k, ys, ns, f, rfl, by omega, HS⟩
      · go_wp2
        go_meet
        case rel => exact ⟨i, k, ys, ns, f, rfl, by omega, HS⟩
  case rest =>
    as_aux_lemma =>
    clear HS RD
    obtain ⟨i, n1, ys, ns, f, rfl, hk, HS⟩ := hcut
    go_wp2_with fail
    refine (rz_flip_yes HS.out.rz (by decide)).mono ?_
    rintro e w3 ⟨rfl, r, kp⟩
    have hf := r.facts
    have lf : ys.length + ns.count true ≤ 43 := by
      have h1 : (ns.length : Int) = (1000 + 32 - 1) / 32 := hf.2.1.1
      have h2 := hf.2.2.1
      have h3 := List.count_le_length (a := true) (l := ns)
      omega
    have nl : ns.length = 32 := by
      have h1 : (ns.length : Int) = (1000 + 32 - 1) / 32 := hf.2.1.1
      omega
    have H2 : Hid (Al2 w (w3.alloc (.map #[] 0)) s B w3.heap.size M ys ns n1 0 f (fun _ => 0)) := by
      have bl := (HS.out.map.frm kp (fun e => e rfl)).lt
      exact Lib.hid ⟨Rz.grow r ((Below.refl _ _).alloc (Nat.le_refl _) _) (fun k hk => hk.imp id (fun e => by subst e; simp)), (HS.out.map.frm kp (fun e => e rfl)).frm (S := fun _ => False) (Frm.of_below ((Below.refl _ _).alloc (Nat.le_refl _) _)) (fun e => e), CntM.new _, by omega⟩
    have HT : Hid (ToldA ys ns f (fun _ => 0)) := Lib.hid (ToldA.first HS.out.tk)
    clear r kp hf HS
    go_wp2_with fail
    generalize w3.heap.size = B2 at H2 ⊢
    go_loopw [10] (fun t wr => ∃ (i n2 : Nat) (xs : List Int) (ms : List Bool) (g : Nat → Nat), t = .int .i64 i ∧ n2 ≤ 32 * i ∧ xs.length + ms.count true + i ≤ 43 ∧ ms.length = 32 ∧ Hid (Al2 w wr s B B2 M xs ms n1 n2 f g) ∧ Hid (ToldA xs ms f g)) (fun t _ => 200 - (intOf t).toNat)
    case atStart => exact ⟨0, 0, _, _, _, rfl, by omega, by omega, nl, H2, HT⟩
    case round =>
      clear H2 HT lf nl
      obtain ⟨i, n2, xs, ms, g, rfl, hn2, lf, nl, H2, HT⟩ := hrel
      have i200 : i < 200 := by omega
      by_cases hz : xs.length + ms.count true = 0
      · have HZ := Lib.hid hz
        clear hz
        go_wp2_with fail
        refine (rz_next_none H2.out.rz HZ.out).mono ?_
        rintro e w4 ⟨rfl, r, kp⟩
        have H2 := Lib.hid (H2.out.step r kp)
        have HD := Lib.hid (fun (y : Nat) (y0 : 50 ≤ y) (y1 : y < 1050) (hy : 0 < f y) => HT.out.done HZ.out y0 y1 hy)
        clear r kp HT lf
        go_wp2_with fail
        go_loopw [16] (fun t wr => ∃ y : Nat, t = .int .i64 y ∧ 50 ≤ y ∧ y ≤ 1050 ∧ w4 = wr) (fun t _ => 1050 - (intOf t).toNat)
        case atStart => exact ⟨50, rfl, by omega, by omega, rfl⟩
        case round =>
          obtain ⟨y, rfl, y0, y1, rfl⟩ := hrel
          by_cases yl : y < 1050
          · have k1 := H2.out.m1.look (c := y) (by omega)
            have k2 := H2.out.m2.look (c := y) (by omega)
            by_cases fy : 0 < f y
            · have gy := HD.out y y0 yl fy
              go_wp2
              go_roundw
              case rel => exact ⟨y + 1, by go_num, by omega, by omega, by trivial⟩
              case measure => simp [intOf]; omega
            · have f0 : f y = 0 := by omega
              rw [f0] at k1
              go_wp2
              go_roundw
              case rel => exact ⟨y + 1, by go_num, by omega, by omega, by trivial⟩
              case measure => simp [intOf]; omega
          · go_wp2_with fail
            refine (rAwake_walk _).mono ?_
            rintro e w5 ⟨rfl, b1⟩
            have H2 := Lib.hid (H2.out.keep b1)
            clear b1
            go_wp2_with fail
            refine (rz_left H2.out.rz).mono ?_
            rw [HZ.out]
            rintro e w6 ⟨he, r, kp⟩
            obtain rfl : e = .returned (.int .i64 0) := he
            have BB := Lib.hid r.bel
            clear r kp
            go_wp2
            go_ret
            exact ⟨rfl, BB.out⟩
      · go_wp2_with fail
        refine (rz_next_some H2.out.rz (by omega)).mono ?_
        rintro e w4 ⟨a, b, part, rfl, xs', ms', r, na, kp⟩
        obtain ⟨p, q, rfl, rfl, p0, pq, q1, q2, hp, ht⟩ := HT.out.next na H2.out.rz.xin nl
        have left := na.left
        have nl' : ms'.length = 32 := by have h1 : (ms'.length : Int) = (1000 + 32 - 1) / 32 := r.facts.2.1.1; omega
        have H2 := Lib.hid (H2.out.step r kp)
        have HT := Lib.hid ht
        have HP := Lib.hid hp
        have H3 : Hid (Al2 w w4 s B B2 M xs' ms' n1 (n2 + (p - p)) f (span g p p)) := by rw [span_none, Nat.sub_self]; exact H2
        clear r kp na ht hp H2
        go_wp2_with fail
        go_loopw [15] (fun t wr => ∃ y : Nat, t = .int .i64 y ∧ p ≤ y ∧ y ≤ q ∧ Hid (Al2 w wr s B B2 M xs' ms' n1 (n2 + (y - p)) f (span g p y))) (fun t _ => q - (intOf t).toNat)
        case atStart => exact ⟨p, rfl, by omega, by omega, H3⟩
        case round =>
          clear H3
          obtain ⟨y, rfl, y0, y1, H3⟩ := hrel
          by_cases yl : y < q
          · have hm := H3.out.m2
            have hlk := hm.look (c := y) (by omega)
            have fk := hm.few y
            have HC := Lib.hid hm
            clear hm
            go_wp2_with (first | (at_mapUpdate; refine wpList_count _ rfl _ _ _ rfl B2 (n2 + (y - p)) (span g p y) rfl HC.out (by omega) y (by omega) rfl rfl ?_; intro w5 o5 g5) | go_in)
            rw [span_next y0, show n2 + (y - p) + 1 = n2 + (y + 1 - p) by omega] at o5
            have H3 := Lib.hid (H3.out.count o5 g5)
            clear o5 g5 hlk HC
            go_wp2
            go_roundw
            case rel => exact ⟨y + 1, by go_num, by omega, by omega, H3⟩
            case measure => simp [intOf]; omega
          · obtain rfl : y = q := by omega
            cases part
            · obtain ⟨e1, e2⟩ := HP.out rfl
              have k1 := H3.out.m1.look (c := p) (by omega)
              have k2 := H3.out.m2.look (c := p) (by omega)
              have e3 : span g p y p = g p + 1 := by unfold span; rw [if_pos (by omega)]
              rw [e3] at k2
              have f1 := H3.out.m1.few p
              obtain ⟨G, hG⟩ : ∃ G : Nat, g p + 1 = G := ⟨_, rfl⟩
              obtain ⟨P, hP⟩ : ∃ P : Nat, f p = P := ⟨_, rfl⟩
              rw [hG] at k2 e2
              rw [hP] at k1 e2 f1
              have e4 : (y : Int) = (p : Int) + 1 := by omega
              have e5 : ¬ (G : Int) > (P : Int) := by omega
              have e6 : ¬ (P : Int) < (G : Int) := by omega
              clear e1 e3 hG hP HP
              go_wp2
              go_roundw
              case rel => exact ⟨i + 1, n2 + (y - p), _, _, _, by go_num, by omega, by omega, nl', H3, HT⟩
              case measure => simp [intOf]; omega
            · clear HP
              go_wp2
              go_roundw
              case rel => exact ⟨i + 1, n2 + (y - p), _, _, _, by go_num, by omega, by omega, nl', H3, HT⟩
              case measure => simp [intOf]; omega
end Go.Proofs.Ytfjojpfknjdjiaa
