/- The walk of MatureSweep. -/
import Derived.Test.YtinoeofimajpdaaSwA
namespace Go.Proofs.Ytinoeofimajpdaa
open Go.RowKit

theorem starts_inS {F G f t y : Int} {pgs : List Pg} (h : y ∈ startsP F G pgs f t) : f ≤ y ∧ y < t ∧ ∃ c ∈ cellsP F G pgs, c.pos = y ∧ c.used = true := by
  obtain ⟨c, hc, rfl⟩ := List.mem_map.1 h
  obtain ⟨hc, hu⟩ := List.mem_filter.1 hc
  simp only [inB, Bool.and_eq_true, decide_eq_true_eq] at hu
  exact ⟨hu.1.2, hu.2, c, hc, rfl, hu.1.1⟩

theorem words_pos {F G : Int} {pgs : List Pg} (g0 : 1 ≤ G) (wf : WF G pgs) {c : Rc} (hc : c ∈ cellsP F G pgs) : 0 ≤ c.words := by
  obtain ⟨k, x, hx, hcx⟩ := mem_cellsP.1 hc
  cases x with
  | free => simp [Pg.cells] at hcx
  | rest => simp [Pg.cells] at hcx
  | big m =>
    obtain rfl : c = ⟨F + k * G, m * G, true, true⟩ := by simpa [Pg.cells] using hcx
    have : (0 : Int) ≤ (m : Int) * G := Int.mul_nonneg (by omega) (by omega)
    exact this
  | blk s us =>
    obtain ⟨j, u, hu, rfl⟩ := mem_blk.1 hcx
    have := (wf.blk k s us hx).1
    show 0 ≤ s
    omega

/-- A place of the list, as it is read. -/
theorem Sol.read {M : MatSpec} {w0 w : World} {b : Nat} {F G : Int} {ps : List Bool} {pgs : List Pg} {lo : Option Addr} {len cap : Nat} {ys : List Int} (h : Sol M w0 w b F G ps pgs (.slice lo len cap) ys) {k : Nat} {y : Int} (hy : ys[k]? = some y) :
    ∃ gl, lo = some ⟨gl, 0, none⟩ ∧ gl < w.heap.size ∧ w.cell? ⟨gl, k, none⟩ = some (.int .i64 y) := by
  obtain ⟨lo', lcap', e, hat⟩ := h.own.at_
  injection e with e1 e2 e3
  obtain ⟨gl, e4, _, lt, lc, _⟩ := hat k y hy
  exact ⟨gl, e1.trans e4, lt, lc k y hy⟩

theorem Sol.shape {M : MatSpec} {w0 w : World} {b : Nat} {F G : Int} {ps : List Bool} {pgs : List Pg} {lv : Value} {ys : List Int} (h : Sol M w0 w b F G ps pgs lv ys) : ∃ lo cap, lv = .slice lo ys.length cap := by
  obtain ⟨lo, cap, e, _⟩ := h.own.at_
  exact ⟨lo, cap, e⟩

/-- The space and a list, so many pages. -/
def Sw1 (M : MatSpec) (w wr : World) (b : Nat) (G : Int) (N : Nat) (ps : List Bool) (pgs : List Pg) (lv : Value) (ys : List Int) : Prop := Sol M w wr b 50 G ps pgs lv ys ∧ pgs.length = N

/-- With what is held. -/
def Sw2 (M : MatSpec) (w wr : World) (b : Nat) (G : Int) (N : Nat) (ps : List Bool) (pgs : List Pg) (lv : Value) (ys : List Int) (hb : Nat) (hs : List Bool) : Prop :=
  Sol2 M w wr b 50 G ps pgs lv ys hb hs ∧ Held ps pgs hs ∧ hs.length = N ∧ pgs.length = N

theorem held_none (ps : List Bool) (pgs : List Pg) (N : Nat) : Held ps pgs (List.replicate N false) := fun q hq => by
  rw [List.getElem?_replicate] at hq
  split at hq <;> cases hq

theorem space_in {G : Int} {N : Nat} (g0 : 16 ≤ G) (g1 : G ≤ 75) (n1 : N ≤ 12) : 0 ≤ (N : Int) * G ∧ (N : Int) * G ≤ 900 := by
  have h0 : 0 ≤ (N : Int) * G := Int.mul_nonneg (by omega) (by omega)
  have h1 := Int.mul_le_mul (show (N : Int) ≤ 12 by omega) g1 (by omega) (by omega)
  omega

set_option maxHeartbeats 32000000 in
set_option maxRecDepth 100000 in
theorem matureSweep_walk (M : MatSpec) (x y : Int) (A1 : Option Addr) (n1 c1 : Nat) (A2 : Option Addr) (n2 c2 : Nat) (w : World) (x0 : 0 ≤ x) (y0 : 0 ≤ y) (rd1 : RdU w A1 n1) (hn1 : n1 ≤ c1) (hc1 : c1 ≤ maxLen) (rd2 : RdU w A2 n2) (hn2 : n2 ≤ c2) (hc2 : c2 ≤ maxLen) :
    Calls Try.prog 6 #[.int .u8 x, .int .u8 y, .slice A1 n1 c1, .slice A2 n2 c2] w fun e w' => e = .returned (.bool true) ∧ Below w.heap.size w w' := by
  have nm1 : n1 ≤ 9223372036854775807 := by simp only [maxLen] at hc1; omega
  have nm2 : n2 ≤ 9223372036854775807 := by simp only [maxLen] at hc2; omega
  have RD1 := Lib.hid rd1
  have RD2 := Lib.hid rd2
  clear rd1 rd2 hc1 hc2 hn1 hn2
  have e1 : x.tmod 12 = x % 12 := Int.tmod_eq_emod_of_nonneg x0
  have e2 : y.tmod 60 = y % 60 := Int.tmod_eq_emod_of_nonneg y0
  obtain ⟨N0, hN⟩ : ∃ N0 : Nat, x % 12 = N0 := ⟨(x % 12).toNat, by omega⟩
  obtain ⟨g, hg⟩ : ∃ g, y % 60 = g := ⟨_, rfl⟩
  have N11 : N0 ≤ 11 := by omega
  have g59 : 0 ≤ g ∧ g ≤ 59 := by omega
  rw [hN] at e1
  rw [hg] at e2
  clear hN hg
  go_enter Try.func6, Try.ntmps6
  go_wp2_with fail
  refine (M.new 50 (N0 + 1) (g + 16) w).mono ?_
  rintro e w1 ⟨b, S, rfl, h1, b1, s1⟩
  have q1 : cutI 50 0 1048576 = 50 := by decide
  have q2 : cutI ((N0 : Int) + 1) 0 64 = (N0 + 1 : Nat) := by unfold cutI; rw [if_neg (by omega), if_neg (by omega)]; omega
  have q3 : cutI (g + 16) 1 256 = g + 16 := by unfold cutI; rw [if_neg (by omega), if_neg (by omega)]
  rw [q1, q2, q3, Int.toNat_natCast] at h1
  clear q1 q2 q3
  obtain ⟨N, hN⟩ : ∃ N, N0 + 1 = N := ⟨_, rfl⟩
  obtain ⟨G, hG⟩ : ∃ G, g + 16 = G := ⟨_, rfl⟩
  have GI : 16 ≤ G ∧ G ≤ 75 := by omega
  have NI : 1 ≤ N ∧ N ≤ 12 := by omega
  have hNi : (N0 : Int) + 1 = (N : Int) := by omega
  rw [hG, hN] at h1
  have HS := Lib.hid (show Sw1 M w w1 b G N (List.replicate N false) (List.replicate N .free) (.slice none 0 0) [] from ⟨⟨S, h1, s1, b1, World.ownsRow_nil _ _ _ _, fun k _ e => by simp [Value.ownBlock] at e⟩, List.length_replicate ..⟩)
  have NG := space_in GI.1 GI.2 NI.2
  clear h1 b1 s1 hN
  unfold spP
  go_upto_block 0 with (fail)
  go_cut [12] (fun s12 wc => ∃ (i : Nat) (pgs : List Pg), s12 = .int .i64 i ∧ Hid (Sw1 M w wc b G N (List.replicate N false) pgs (.slice none 0 0) []))
  case first =>
    go_wp2_with fail
    go_loopw [12] (fun s12 wr => ∃ (i : Nat) (pgs : List Pg), i ≤ 40 ∧ s12 = .int .i64 i ∧ Hid (Sw1 M w wr b G N (List.replicate N false) pgs (.slice none 0 0) [])) (fun s12 _ => 40 - (intOf s12).toNat)
    case atStart => exact ⟨0, _, by omega, rfl, HS⟩
    case round =>
      clear HS
      obtain ⟨i, pgs, i40, rfl, HS⟩ := hrel
      by_cases il : i < n1
      · by_cases i4 : i < 40
        · obtain ⟨ad, z, rfl, al, rw0, z0, z1⟩ := RD1.out i il
          have r0 := old_cell al HS.out.1.below i rw0
          clear rw0
          have ez : z.tmod 100 = z % 100 := Int.tmod_eq_emod_of_nonneg z0
          obtain ⟨sz, hsz⟩ : ∃ sz, z % 100 = sz := ⟨_, rfl⟩
          have s5 : 0 ≤ sz ∧ sz ≤ 99 := by omega
          rw [hsz] at ez
          clear hsz
          go_wp2_with fail
          refine (sTake HS.out.1 (sz + 1) (by omega) (by omega)).mono ?_
          rintro e v1 ⟨u, pgs1, rfl, t1, h1⟩
          have H1 := Lib.hid (show Sw1 M w v1 b G N (List.replicate N false) pgs1 (.slice none 0 0) [] from ⟨h1, by rw [t1.length]; exact HS.out.2⟩)
          clear h1 t1 HS r0
          go_wp2
          go_roundw
          case rel => exact ⟨i + 1, pgs1, by omega, by go_num, H1⟩
          case measure => simp [intOf]; omega
        · obtain rfl : i = 40 := by omega
          go_wp2
          go_meet
          case rel => exact ⟨40, pgs, rfl, HS⟩
      · go_wp2
        go_meet
        case rel => exact ⟨i, pgs, rfl, HS⟩
  case rest =>
    as_aux_lemma =>
    clear HS RD1
    obtain ⟨i, pgs, rfl, HS⟩ := hcut
    go_wp2_with fail
    refine (sStarts HS.out.1 0 1073741824 (by omega) (by omega) (by omega) (by omega)).mono ?_
    rintro e v1 ⟨u, rfl, h1⟩
    obtain ⟨lo, cap, rfl⟩ := h1.shape
    have SI := Lib.hid (show ∀ y ∈ startsP 50 G pgs 0 1073741824, 0 ≤ y ∧ y < 1073741824 from fun y hy => ⟨(starts_inS hy).1, (starts_inS hy).2.1⟩)
    have few : (startsP 50 G pgs 0 1073741824).length ≤ 4096 := starts_few (by omega) h1.wf.1 (by have := HS.out.2; omega)
    have H1 := Lib.hid (show Sw1 M w v1 b G N _ pgs _ _ from ⟨h1, HS.out.2⟩)
    clear h1 HS
    generalize startsP 50 G pgs 0 1073741824 = ys at *
    go_upto_block 2 with (fail)
    go_cut [14] (fun s14 wc => ∃ (i : Nat) (qs : List Bool) (pg : List Pg), s14 = .int .i64 i ∧ Hid (Sw1 M w wc b G N qs pg (.slice lo ys.length cap) ys))
    case first =>
      go_wp2_with fail
      go_loopw [14] (fun s14 wr => ∃ (j : Nat) (qs : List Bool) (pg : List Pg), j ≤ ys.length + 1 ∧ s14 = .int .i64 j ∧ Hid (Sw1 M w wr b G N qs pg (.slice lo ys.length cap) ys)) (fun s14 _ => ys.length + 1 - (intOf s14).toNat)
      case atStart => exact ⟨0, _, pgs, by omega, rfl, H1⟩
      case round =>
        clear H1
        obtain ⟨j, qs, pg, hj, rfl, HS⟩ := hrel
        by_cases jl : j < ys.length
        · obtain ⟨yy, hy⟩ : ∃ yy, ys[j]? = some yy := ⟨_, List.getElem?_eq_getElem jl⟩
          have yin := SI.out yy (List.mem_of_getElem? hy)
          obtain ⟨gl, rfl, glt, l0⟩ := HS.out.1.read hy
          clear hy
          go_wp2_with fail
          refine (sGive HS.out.1 yy (by omega) (by omega)).mono ?_
          rintro e v2 ⟨ok, pg2, qs2, rfl, t2, h2⟩
          have H2 := Lib.hid (show Sw1 M w v2 b G N qs2 pg2 _ ys from ⟨h2, by rw [t2.length.1]; exact HS.out.2⟩)
          clear h2 t2 HS l0
          go_wp2
          go_roundw
          case rel => exact ⟨j + 2, qs2, pg2, by omega, by go_num, H2⟩
          case measure => simp [intOf]; omega
        · go_wp2
          go_meet
          case rel => exact ⟨j, qs, pg, rfl, HS⟩
    case rest =>
      as_aux_lemma =>
      clear H1 SI
      obtain ⟨i2, qs, pg, rfl, HS⟩ := hcut
      go_wp2_with fail
      refine (sStarts HS.out.1 0 1073741824 (by omega) (by omega) (by omega) (by omega)).mono ?_
      rintro e v2 ⟨u, rfl, h2⟩
      obtain ⟨lo2, cap2, rfl⟩ := h2.shape
      have few2 : (startsP 50 G pg 0 1073741824).length ≤ 4096 := starts_few (by omega) h2.wf.1 (by have := HS.out.2; omega)
      have SC := Lib.hid (show ∀ y ∈ startsP 50 G pg 0 1073741824, ∃ c ∈ cellsP 50 G pg, c.pos = y ∧ c.used = true from fun y hy => (starts_inS hy).2.2)
      have LN := Lib.hid HS.out.2
      have H2 := Lib.hid h2
      clear h2 HS
      generalize startsP 50 G pg 0 1073741824 = zs at *
      go_wp2_with fail
      refine (sPend H2.out).mono ?_
      rintro e v3 ⟨rfl, h3⟩
      have H3 := Lib.hid (show Sw2 M w (v3.alloc (.cells (Array.replicate N (Value.bool false)) 4)) b G N (pg.map Pg.first) pg _ zs v3.heap.size (List.replicate N false) from
        ⟨h3.flagged (List.replicate N false) _ (by simp), held_none _ _ _, List.length_replicate .., LN.out⟩)
      clear H2 h3
      have hmk := run_make_bool (N : Int) (by omega) (by omega)
      rw [Int.toNat_natCast] at hmk
      go_upto_block 4 with (fail)
      clear hmk
      generalize v3.alloc (.cells (Array.replicate N (Value.bool false)) 4) = v4 at *
      generalize v3.heap.size = hb at *
      go_cut [17] (fun s17 wc => ∃ (i : Nat) (hs : List Bool), s17 = .int .i64 i ∧ Hid (Sw2 M w wc b G N (pg.map Pg.first) pg (.slice lo2 zs.length cap2) zs hb hs))
      case first =>
        go_wp2_with fail
        go_loopw [17] (fun s17 wr => ∃ (i : Nat) (hs : List Bool), i ≤ zs.length ∧ s17 = .int .i64 i ∧ Hid (Sw2 M w wr b G N (pg.map Pg.first) pg (.slice lo2 zs.length cap2) zs hb hs)) (fun s17 _ => zs.length - (intOf s17).toNat)
        case atStart => exact ⟨0, _, by omega, rfl, H3⟩
        case round =>
          clear H3
          obtain ⟨i3, hs, hi3, rfl, HS⟩ := hrel
          by_cases il : i3 < zs.length
          · obtain ⟨yy, hy⟩ : ∃ yy, zs[i3]? = some yy := ⟨_, List.getElem?_eq_getElem il⟩
            obtain ⟨c, hc, cp, cu⟩ := SC.out yy (List.mem_of_getElem? hy)
            have wf := HS.out.1.sol.wf.1
            have wi := cells_within (by omega : 1 ≤ G) wf hc
            rw [LN.out, cp] at wi
            have SV := Lib.hid (show sizeV (cellsP 50 G pg) yy = .tuple #[.int .i64 c.words, .bool true] from by rw [← cp]; exact sizeV_at (by omega) wf hc cu)
            have PP := Lib.hid (show ∀ a : Int, yy ≤ a → a < yy + c.words → ∃ q : Nat, (a - 50).tdiv G = q ∧ q < N ∧ pg[q]? ≠ some .free from fun a a0 a1 => by
              have := place_page (by omega : 1 ≤ G) wf hc (a := a) (by rw [cp]; exact a0) (by rw [cp]; exact a1)
              rwa [LN.out] at this)
            obtain ⟨cw, hcw⟩ : ∃ cw, c.words = cw := ⟨_, rfl⟩
            have wp := words_pos (by omega : 1 ≤ G) wf hc
            rw [hcw] at SV PP wi wp
            obtain ⟨gl, rfl, glt, l0⟩ := HS.out.1.sol.read hy
            have HY := Lib.hid hy
            have yin : 50 ≤ yy ∧ yy ≤ 100000 := by
              have := place_in HS.out.1.sol (y := yy) (by rw [usedP]; exact List.mem_map.2 ⟨c, List.mem_filter.2 ⟨hc, cu⟩, cp⟩)
              rw [LN.out] at this
              omega
            clear hy hc cp cu wf hcw
            go_wp2_with fail
            refine (sSize HS.out.1.sol yy (by omega) (by omega)).mono ?_
            rintro e v5 ⟨rfl, b5⟩
            rw [SV.out]
            have H5 := Lib.hid (show Sw2 M w v5 b G N (pg.map Pg.first) pg _ zs hb hs from ⟨HS.out.1.keep b5, HS.out.2⟩)
            have l5 : v5.cell? ⟨gl, i3, none⟩ = some (.int .i64 yy) := (b5.cell (p := ⟨gl, i3, none⟩) (by exact glt)).trans l0
            clear HS b5 l0
            go_wp2_with fail
            clear l5
            go_loopw [20] (fun s20 wr => ∃ (a : Int) (hs : List Bool), s20 = .int .i64 a ∧ yy ≤ a ∧ (a ≤ yy + cw ∨ a = yy) ∧ Hid (Sw2 M w wr b G N (pg.map Pg.first) pg (.slice (some ⟨gl, 0, none⟩) zs.length cap2) zs hb hs)) (fun s20 _ => (yy + cw - intOf s20).toNat)
            case atStart => exact ⟨yy, hs, rfl, Int.le_refl _, Or.inr rfl, H5⟩
            case round =>
              clear H5
              obtain ⟨a, hs, rfl, a0, a1, HS⟩ := hrel
              obtain ⟨gl', e, glt2, l0⟩ := HS.out.1.sol.read HY.out
              cases e
              have ab : a ≤ 200000 := by omega
              by_cases al : a < yy + cw
              · obtain ⟨q, eq, ql, qf⟩ := PP.out a a0 al
                have eq2 : (a - 50) / G = (q : Int) := by rw [← eq, tdiv_of (by omega)]
                have q0 : (0 : Int) ≤ q := by omega
                have q1 : (q : Int) < N := by omega
                have hql : q < hs.length := by rw [HS.out.2.2.1]; exact ql
                have c0 := HS.out.1.flags.bools (List.getElem?_eq_getElem hql)
                have cf := HS.out.1.flags.frozen
                generalize hs[q] = hv at c0
                have R := Lib.hid (show Sw2 M w (wr.setCell ⟨hb, q, none⟩ (.bool true)) b G N (pg.map Pg.first) pg (.slice (some ⟨gl, 0, none⟩) zs.length cap2) zs hb (hs.set q true) from
                  ⟨HS.out.1.setH q true, HS.out.2.1.mark qf, by rw [List.length_set]; exact HS.out.2.2.1, HS.out.2.2.2⟩)
                clear qf HS hql a1
                go_wp2
                go_roundw
                case rel => exact ⟨a + 1, hs.set q true, by go_num, by omega, by omega, R⟩
                case measure => simp [intOf]; omega
              · clear a1
                go_wp2
                go_roundw
                case rel => exact ⟨i3 + 1, hs, by omega, by go_num, HS⟩
                case measure => simp [intOf]; omega
          · obtain rfl : i3 = zs.length := by omega
            go_wp2
            go_meet
            case rel => exact ⟨_, hs, rfl, HS⟩
      case rest =>
        as_aux_lemma =>
        clear H3 SC
        obtain ⟨i4, hs, rfl, H4⟩ := hcut
        have hsl := Lib.hid H4.out.2.2.1
        generalize pg.map Pg.first = ps at *
        go_upto_block 8 with (fail)
        go_cut [21] (fun s21 wc => ∃ (i : Nat) (pg : List Pg), s21 = .int .i64 i ∧ Hid (Sw2 M w wc b G N ps pg (.slice lo2 zs.length cap2) zs hb hs))
        case first =>
          go_wp2_with fail
          go_loopw [21] (fun s21 wr => ∃ (i : Nat) (pg : List Pg), i ≤ 40 ∧ s21 = .int .i64 i ∧ Hid (Sw2 M w wr b G N ps pg (.slice lo2 zs.length cap2) zs hb hs)) (fun s21 _ => 40 - (intOf s21).toNat)
          case atStart => exact ⟨0, _, by omega, rfl, H4⟩
          case round =>
            clear H4
            obtain ⟨i5, pg, i40, rfl, HS⟩ := hrel
            by_cases il : i5 < n2
            · by_cases i4 : i5 < 40
              · obtain ⟨ad, z, rfl, al, rw0, z0, z1⟩ := RD2.out i5 il
                have r0 := old_cell al HS.out.1.sol.below i5 rw0
                clear rw0
                have ez : z.tmod 100 = z % 100 := Int.tmod_eq_emod_of_nonneg z0
                obtain ⟨sz, hsz⟩ : ∃ sz, z % 100 = sz := ⟨_, rfl⟩
                have s5 : 0 ≤ sz ∧ sz ≤ 99 := by omega
                rw [hsz] at ez
                clear hsz
                go_wp2_with fail
                refine (s2Take HS.out.1 (sz + 1) (by omega) (by omega)).mono ?_
                rintro e v1 ⟨u, pg1, rfl, t1, h1⟩
                have len1 := t1.length
                rcases take_cases t1 with ⟨rfl, rfl⟩ | ⟨xx, rfl⟩
                · have H1 := Lib.hid (show Sw2 M w v1 b G N ps _ _ zs hb hs from ⟨h1, HS.out.2⟩)
                  clear h1 t1 HS r0 len1
                  unfold noV
                  go_wp2
                  go_roundw
                  case rel => exact ⟨i5 + 1, _, by omega, by go_num, H1⟩
                  case measure => simp [intOf]; omega
                · obtain ⟨hd, q, eq, ql, qn⟩ := HS.out.2.1.take (by omega) HS.out.1.sol.wf.1 t1
                  obtain ⟨up, wf1, c, hc, cx, cu, cn⟩ := take_used (by omega) (by omega) HS.out.1.sol.wf.1 t1
                  have wi := cells_within (by omega : 1 ≤ G) wf1 hc
                  have xin := place_in h1.sol (y := xx) (by rw [usedP]; exact List.mem_map.2 ⟨c, List.mem_filter.2 ⟨hc, cu⟩, cx⟩)
                  rw [HS.out.2.2.2] at ql
                  rw [len1, HS.out.2.2.2] at xin
                  have eq2 : (xx - 50) / G = (q : Int) := by rw [← eq, tdiv_of (by omega)]
                  have q0 : (0 : Int) ≤ q := by omega
                  have q1 : (q : Int) < N := by omega
                  have hql : q < hs.length := by rw [hsl.out]; exact ql
                  have hq : hs[q]? = some false := by
                    have e := List.getElem?_eq_getElem hql
                    cases ev : hs[q] with
                    | false => rw [e, ev]
                    | true => rw [e, ev] at qn; exact absurd rfl qn
                  have c0 := h1.flags.bools hq
                  have cf := h1.flags.frozen
                  have H1 := Lib.hid (show Sw2 M w v1 b G N ps pg1 _ zs hb hs from ⟨h1, hd, HS.out.2.2.1, by rw [len1]; exact HS.out.2.2.2⟩)
                  clear h1 t1 HS r0 len1 hd qn up wf1 hc cx cu cn wi hql hq
                  unfold yesV
                  go_wp2
                  go_roundw
                  case rel => exact ⟨i5 + 1, pg1, by omega, by go_num, H1⟩
                  case measure => simp [intOf]; omega
              · obtain rfl : i5 = 40 := by omega
                go_wp2
                go_meet
                case rel => exact ⟨40, pg, rfl, HS⟩
            · go_wp2
              go_meet
              case rel => exact ⟨i5, pg, rfl, HS⟩
        case rest =>
          as_aux_lemma =>
          clear H4 RD2
          obtain ⟨i6, pg, rfl, H6⟩ := hcut
          have CN := Lib.hid (show 0 + ps.countP id ≤ N from by
            have h1 := List.countP_le_length (p := id) (l := ps)
            have h2 := H6.out.1.sol.wf.2.1
            have h3 := H6.out.2.2.2
            omega)
          have H7 := Lib.hid H6.out.1
          clear H6 hsl LN
          go_wp2_with fail
          go_loopw [24, 25] (fun s24 s25 wr => ∃ (i : Nat) (qs : List Bool), s24 = .int .i64 i ∧ s25 = .int .i64 i ∧ i ≤ N ∧ Hid (i + qs.countP id ≤ N) ∧ Hid (Sol2 M w wr b 50 G qs pg (.slice lo2 zs.length cap2) zs hb hs)) (fun _ s25 _ => 100 - (intOf s25).toNat)
          case atStart => exact ⟨0, ps, rfl, rfl, by omega, CN, H7⟩
          case round =>
            clear H7 CN
            obtain ⟨i7, qs, rfl, rfl, i7N, CN, HS⟩ := hrel
            go_wp2_with fail
            refine (s2Pending HS.out).mono ?_
            rintro e v1 ⟨rfl, b1⟩
            have H1 := Lib.hid (HS.out.keep b1)
            clear HS b1
            rcases pend_cases qs with ⟨k, ek, hk⟩ | ek
            · obtain ⟨d1, d2, d3, d4, d5⟩ := count_done hk
              have kl := (List.getElem?_eq_some_iff.1 hk).1
              have kb : k < 64 := by have := H1.out.sol.wf.2.2.2.2.2.2; omega
              have D1 := s2Done H1.out (k : Int) (by omega) (by omega)
              rw [d1, d2] at D1
              have HD1 := Lib.hid D1
              have D45 := Lib.hid (And.intro d4 d5)
              have CN2 := Lib.hid (show i7 + 1 + (qs.set k false).countP id ≤ N from by have := CN.out; omega)
              have i7n : i7 + 1 ≤ N := by have := CN.out; omega
              rw [ek]
              clear D1 d1 d2 d3 d4 d5 ek hk kl
              unfold spP at HD1
              go_wp2_with fail
              refine HD1.out.mono ?_
              rintro e v2 ⟨rfl, h2⟩
              have D2 := s2Done h2 (k : Int) (by omega) (by omega)
              rw [D45.out.1, D45.out.2] at D2
              have HD2 := Lib.hid D2
              clear D2 h2
              unfold spP at HD2
              go_wp2_with fail
              refine HD2.out.mono ?_
              rintro e v3 ⟨rfl, h3⟩
              have H3 := Lib.hid h3
              clear h3
              go_wp2
              go_roundw
              case rel => exact ⟨i7 + 1, qs.set k false, by go_num, by go_num, i7n, CN2, H3⟩
              case measure => simp [intOf]; omega
            · have EK := Lib.hid ek
              rw [ek]
              clear ek
              go_wp2_with fail
              refine (s2Pending H1.out).mono ?_
              rintro e v2 ⟨rfl, b2⟩
              rw [EK.out]
              have H2 := Lib.hid (H1.out.keep b2)
              clear H1 b2
              go_wp2_with fail
              refine (awake5_any M v2).mono ?_
              rintro e v3 ⟨rfl, b3⟩
              go_wp2
              go_ret
              exact ⟨rfl, below_trans H2.out.sol.below b3⟩
end Go.Proofs.Ytinoeofimajpdaa
