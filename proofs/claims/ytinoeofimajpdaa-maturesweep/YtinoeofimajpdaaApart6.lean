/- The walk of MatureApart. -/
import Derived.Test.YtinoeofimajpdaaApart5
namespace Go.Proofs.Ytinoeofimajpdaa
open Go.RowKit

theorem old_cell {w w' : World} {ad : Addr} (hl : ad.block < w.heap.size) (hb : Below w.heap.size w w') (i : Nat) {v : Value} (h : w.cell? (ad.add i) = some v) : w'.cell? (ad.add i) = some v := by
  have eb : (ad.add i).block = ad.block := by unfold Addr.add; split <;> rfl
  exact (hb.cell (p := ad.add i) (by rw [eb]; exact hl)).trans h

theorem take_cases {F G : Int} {ps : List Bool} {pgs pgs' : List Pg} {n : Int} {u : Value} (h : TakeA F G ps pgs n u pgs') : (u = noV ∧ pgs' = pgs) ∨ ∃ x, u = yesV x := by
  rcases h with ⟨_, e, e2⟩ | ⟨_, _, ⟨p, _, _, _, e, _⟩ | ⟨_, e, e2⟩⟩ | ⟨_, _, ⟨p, j, us, _, _, _, _, _, e, _⟩ | ⟨_, ⟨p, _, _, e, _⟩ | ⟨_, e, e2⟩⟩⟩
  · exact Or.inl ⟨e, e2⟩
  · exact Or.inr ⟨_, e⟩
  · exact Or.inl ⟨e, e2⟩
  · exact Or.inr ⟨_, e⟩
  · exact Or.inr ⟨_, e⟩
  · exact Or.inl ⟨e, e2⟩

set_option maxHeartbeats 16000000 in
set_option maxRecDepth 100000 in
theorem matureApart_walk (M : MatSpec) (x y : Int) (A : Option Addr) (n c : Nat) (w : World) (x0 : 0 ≤ x) (y0 : 0 ≤ y) (rd : RdU w A n) (hn : n ≤ c) (hc : c ≤ maxLen) :
    Calls Try.prog 4 #[.int .u8 x, .int .u8 y, .slice A n c] w fun e w' => e = .returned (.bool true) ∧ Below w.heap.size w w' := by
  have nm : n ≤ 9223372036854775807 := by simp only [maxLen] at hc; omega
  have RD := Lib.hid rd
  clear rd hc hn
  have e1 : x.tmod 20 = x % 20 := Int.tmod_eq_emod_of_nonneg x0
  have e2 : y.tmod 120 = y % 120 := Int.tmod_eq_emod_of_nonneg y0
  obtain ⟨N, hN⟩ : ∃ N : Nat, x % 20 = N := ⟨(x % 20).toNat, by omega⟩
  obtain ⟨g, hg⟩ : ∃ g, y % 120 = g := ⟨_, rfl⟩
  have N19 : N ≤ 19 := by omega
  have g119 : 0 ≤ g ∧ g ≤ 119 := by omega
  rw [hN] at e1
  rw [hg] at e2
  clear hN hg
  obtain ⟨i0, hi0, hz, hsz, hb⟩ := info_parts info_int
  have HI0 := Lib.hid (And.intro hi0 (And.intro hz (And.intro hsz hb)))
  clear hi0 hz hsz hb
  go_enter Try.func4, Try.ntmps4
  go_wp2_with fail
  refine (M.new 1000 N (g + 16) w).mono ?_
  rintro e w1 ⟨b, S, rfl, h1, b1, s1⟩
  have q1 : cutI 1000 0 1048576 = 1000 := by decide
  have q2 : cutI (N : Int) 0 64 = N := by unfold cutI; rw [if_neg (by omega), if_neg (by omega)]
  have q3 : cutI (g + 16) 1 256 = g + 16 := by unfold cutI; rw [if_neg (by omega), if_neg (by omega)]
  rw [q1, q2, q3, Int.toNat_natCast] at h1
  clear q1 q2 q3
  obtain ⟨G, hG⟩ : ∃ G, g + 16 = G := ⟨_, rfl⟩
  have GI : 16 ≤ G ∧ G ≤ 135 := by omega
  rw [hG] at h1
  have HS := Lib.hid (show Sol M w (w1.alloc (.cells #[] 3)) b 1000 G (List.replicate N false) (List.replicate N .free) (.slice (some ⟨w1.heap.size, 0, none⟩) 0 0) [] from by
    have bA := (Below.refl w1.heap.size w1).alloc (Nat.le_refl _) (.cells #[] 3)
    have o := own_nil w1
    refine ⟨S, M.keep h1 bA, s1, b1.trans (bA.mono b1.size), ⟨o.1, ?_⟩, fun k hk e => ?_⟩
    · rcases o.2 with q | ⟨g, cap, cur, e1, e2, e3⟩
      · exact Or.inl q
      · exact Or.inr ⟨g, cap, cur, e1, Nat.le_trans b1.size e2, e3⟩
    · have := M.lt h1 k hk
      have : w1.heap.size = k := by simpa [Value.ownBlock] using e
      omega)
  have WN := Lib.hid (show (usedP 1000 G (List.replicate N .free)) = [] from by
    have := (Rel.new 1000 G N).perm
    rw [usedP, List.nil_perm.1 this]; rfl)
  clear h1 b1 s1
  unfold spP
  go_wp2_with fail
  have NG0 : (0 : Int) ≤ (N : Int) * G := Int.mul_nonneg (by omega) (by omega)
  have NG1 : (N : Int) * G ≤ 19 * 135 := Int.mul_le_mul (by omega) (by omega) (by omega) (by omega)
  go_loopw [10, 11] (fun s10 s11 wr => ∃ (i : Nat) (ys : List Int) (pgs : List Pg), i ≤ n ∧ i ≤ 60 ∧ s11 = .int .i64 i ∧ ys.length ≤ i ∧ Hid (Sol M w wr b 1000 G (List.replicate N false) pgs s10 ys ∧ ys.Perm (usedP 1000 G pgs))) (fun _ s11 _ => 60 - (intOf s11).toNat)
  case atStart => exact ⟨0, [], _, Nat.zero_le _, by omega, rfl, Nat.zero_le _, Lib.hid ⟨HS.out, by rw [WN.out]⟩⟩
  case round =>
    clear HS WN
    obtain ⟨i, ys, pgs, hin, hi6, rfl, yl, HS⟩ := hrel
    by_cases ilt : i < n ∧ i < 60
    · obtain ⟨il, i6⟩ := ilt
      obtain ⟨ad, z, rfl, al, rw0, z0, z1⟩ := RD.out i il
      have RW := Lib.hid rw0
      have r0 := old_cell al HS.out.1.below i rw0
      clear rw0
      have ez : z.tmod 600 = z % 600 := Int.tmod_eq_emod_of_nonneg z0
      obtain ⟨sz, hsz⟩ : ∃ sz, z % 600 = sz := ⟨_, rfl⟩
      have s5 : 0 ≤ sz ∧ sz ≤ 599 := by omega
      rw [hsz] at ez
      clear hsz
      obtain ⟨lo, lcap, hlv, _⟩ := HS.out.1.own.at_
      subst hlv
      go_wp2_with fail
      refine (sTake HS.out.1 (sz + 1) (by omega) (by omega)).mono ?_
      rintro e v1 ⟨u, pgs1, rfl, t1, h1⟩
      have PM := Lib.hid HS.out.2
      obtain ⟨wf0, len0, _, _, _, _, _⟩ := HS.out.1.wf
      have len1 : pgs.length = N := by rw [len0, List.length_replicate]
      rcases take_cases t1 with ⟨rfl, rfl⟩ | ⟨xx, rfl⟩
      · have H1 := Lib.hid h1
        clear HS h1 t1 wf0 len0 len1
        unfold noV
        go_wp2
        go_roundw
        case rel => exact ⟨i + 1, ys, _, by omega, by omega, by go_num, by omega, Lib.hid ⟨H1.out, PM.out⟩⟩
        case measure => simp [intOf]; omega
      · obtain ⟨up, wf1, c, hc, cx, cu, cn⟩ := take_used (by omega) (by omega) wf0 t1
        obtain ⟨_, len2, _⟩ := h1.wf
        have wi := cells_within (by omega : 1 ≤ G) wf1 hc
        rw [len2, List.length_replicate, cx] at wi
        have SV := Lib.hid (show sizeV (cellsP 1000 G pgs1) xx = .tuple #[.int .i64 c.words, .bool true] from by rw [← cx]; exact sizeV_at (by omega) wf1 hc cu)
        -- of what is in the list nothing meets it
        have NM := Lib.hid (show ∀ y ∈ ys, ∃ m, sizeV (cellsP 1000 G pgs1) y = .tuple #[.int .i64 m, .bool true] ∧ 1000 ≤ y ∧ 0 ≤ m ∧ y + m ≤ 1000 + N * G ∧ ¬ (xx < y + m ∧ y < xx + c.words) from fun y hy => by
          have hy1 : y ∈ usedP 1000 G pgs := PM.out.mem_iff.1 hy
          have hy2 : y ∈ usedP 1000 G pgs1 := up.mem_iff.2 (List.mem_cons_of_mem _ hy1)
          obtain ⟨d, hd, rfl, du⟩ := usedP_mem hy2
          have wd := cells_within (by omega : 1 ≤ G) wf1 hd
          rw [len2, List.length_replicate] at wd
          have nd := up.nodup_iff.1 (usedP_nodup (by omega) wf1)
          have ne : c.pos ≠ d.pos := fun e => by
            rw [cx] at e
            exact (List.nodup_cons.1 nd).1 (by rw [e]; exact hy1)
          have nm := no_meet (by omega) wf1 hc hd ne
          rw [cx] at nm
          have dw : 0 ≤ d.words := by
            rcases Int.lt_or_le d.words 0 with q | q
            · obtain ⟨k, X, hX, hdX⟩ := mem_cellsP.1 hd
              cases X with
              | free => simp [Pg.cells] at hdX
              | rest => simp [Pg.cells] at hdX
              | big m =>
                obtain rfl : d = ⟨1000 + k * G, m * G, true, true⟩ := by simpa [Pg.cells] using hdX
                have : (0 : Int) ≤ (m : Int) * G := Int.mul_nonneg (by omega) (by omega)
                exact this
              | blk s us =>
                obtain ⟨j, u, hu, rfl⟩ := mem_blk.1 hdX
                have := (wf1.blk k s us hX).1
                show 0 ≤ s
                omega
            · exact q
          exact ⟨d.words, sizeV_at (by omega) wf1 hd du, wd.1, dw, wd.2, nm⟩)
        have UP := Lib.hid (show (ys ++ [xx]).Perm (usedP 1000 G pgs1) from (List.perm_append_singleton xx ys).trans ((PM.out.cons xx).trans up.symm))
        obtain ⟨cw, hcw⟩ : ∃ cw, c.words = cw := ⟨_, rfl⟩
        rw [hcw] at SV NM cn wi
        have H1 := Lib.hid h1
        clear HS h1 t1 wf0 len0 len1 up wf1 hc cx cu hcw len2 PM
        unfold yesV
        go_wp2_with fail
        refine (sSize H1.out xx (by omega) (by omega)).mono ?_
        rintro e v2 ⟨rfl, b2⟩
        rw [SV.out]
        have H2 := Lib.hid (H1.out.keep b2)
        clear H1 b2 r0
        have r0 := old_cell al H2.out.below i RW.out
        have nlt : ¬ cw < sz + 1 := by omega
        have nx : ¬ xx < 1000 := by omega
        have nw : ¬ 1000 + (N : Int) * G < xx + cw := by omega
        go_wp2_with fail
        clear r0
        go_loopw [16] (fun s16 wr' => ∃ k : Nat, k ≤ ys.length ∧ s16 = .int .i64 k ∧ Hid (Sol M w wr' b 1000 G (List.replicate N false) pgs1 (.slice lo ys.length lcap) ys)) (fun s16 _ => ys.length - (intOf s16).toNat)
        case atStart => exact ⟨0, Nat.zero_le _, rfl, H2⟩
        case round =>
          clear H2
          obtain ⟨k, hk, rfl, H3⟩ := hrel
          by_cases klt : k < ys.length
          · have hy : ys[k]? = some ys[k] := List.getElem?_eq_getElem klt
            generalize ys[k] = yy at hy
            obtain ⟨mm, sv, y1, y2, y3, y4⟩ := NM.out yy (List.mem_of_getElem? hy)
            have SV2 := Lib.hid sv
            obtain ⟨lo', lcap', e, hat⟩ := H3.out.own.at_
            cases e
            obtain ⟨gl, rfl, _, glt3, lc, _⟩ := hat k yy hy
            have l0 := lc k yy hy
            have k0 : (0 : Int) ≤ (k : Int) := by omega
            have k1 : (k : Int) < (ys.length : Int) := by omega
            clear lc hat sv hy
            go_wp2_with fail
            refine (sSize H3.out yy (by omega) (by omega)).mono ?_
            rintro e v3 ⟨rfl, b3⟩
            rw [SV2.out]
            have H4 := Lib.hid (H3.out.keep b3)
            have l1 : v3.cell? ⟨gl, k, none⟩ = some (.int .i64 yy) := (b3.cell (p := ⟨gl, k, none⟩) (by exact glt3)).trans l0
            clear b3 l0 H3
            by_cases m1 : xx < yy + mm
            · have m2 : ¬ yy < xx + cw := fun e => y4 ⟨m1, e⟩
              go_wp2
              go_roundw
              case rel => exact ⟨k + 1, by omega, by go_num, H4⟩
              case measure => simp [intOf]; omega
            · have md : decide (xx < yy + mm) = false := decide_eq_false m1
              go_wp2
              go_roundw
              case rel => exact ⟨k + 1, by omega, by go_num, H4⟩
              case measure => simp [intOf]; omega
          · obtain rfl : k = ys.length := by omega
            have O2 := Lib.hid (H3.out.own.alloc (.cells #[.int .i64 xx] 3))
            have S2 := Lib.hid (H3.out.keep ((Below.refl _ _).alloc (Nat.le_refl _) (.cells #[.int .i64 xx] 3)))
            have B2 : w.heap.size ≤ wr.heap.size := H3.out.below.size
            clear H3
            go_wp2_with (first
              | (at_builtin; refine wpList_append_own_at _ rfl _ _ 36 rfl w.heap.size 3 i0 (.int .i64 0) 1 8 Try.underlying36 HI0.out.1 HI0.out.2.1 HI0.out.2.2.1 HI0.out.2.2.2 rfl (by decide) _ _ _ rfl O2.out ⟨wr.heap.size, 0, none⟩ 1 1 [.int .i64 xx] rfl rfl (cell_one_new _ _ _) ?c2 ?c3 ?c4 ?c5 ?_)
              | fail)
            case c2 => intro q hq; simp at hq; subst hq; rfl
            case c3 => unfold maxLen; omega
            case c4 => omega
            case c5 => simp; omega
            intro v5 w5 hown5 hgrow5 _ hat5
            have H5 := Lib.hid (S2.out.app hgrow5 hown5 (by simpa using hat5))
            clear hown5 hgrow5 hat5 O2 S2
            go_wp2
            go_roundw
            case rel => exact ⟨i + 1, ys ++ [xx], pgs1, by omega, by omega, by go_num, by rw [List.length_append, List.length_singleton]; omega, Lib.hid ⟨H5.out, UP.out⟩⟩
            case measure => simp [intOf]; omega
    · obtain ⟨lo, lcap, hlv, _⟩ := HS.out.1.own.at_
      subst hlv
      have HS2 := Lib.hid (show Sol M w wr b 1000 G (List.replicate N false) pgs (.slice lo ys.length lcap) ys ∧ (ys.drop 0).Perm (usedP 1000 G pgs) ∧ pgs.length = N from ⟨HS.out.1, by rw [List.drop_zero]; exact HS.out.2, by have := HS.out.1.wf.2.1; rw [List.length_replicate] at this; exact this⟩)
      clear HS
      by_cases il : i < n
      · obtain rfl : i = 60 := by omega
        go_wp2_with fail
        go_loopw [19] (fun s19 wr' => ∃ (j : Nat) (pg : List Pg) (ps : List Bool), j ≤ ys.length ∧ s19 = .int .i64 j ∧ Hid (Sol M w wr' b 1000 G ps pg (.slice lo ys.length lcap) ys ∧ (ys.drop j).Perm (usedP 1000 G pg) ∧ pg.length = N)) (fun s19 _ => ys.length - (intOf s19).toNat)
        case atStart => exact ⟨0, pgs, _, Nat.zero_le _, rfl, HS2⟩
        case round =>
          clear HS2
          obtain ⟨j, pg, ps, hj, rfl, H3⟩ := hrel
          by_cases jlt : j < ys.length
          · have hy : ys[j]? = some ys[j] := List.getElem?_eq_getElem jlt
            have hdr : ys.drop j = ys[j] :: ys.drop (j + 1) := List.drop_eq_getElem_cons jlt
            generalize ys[j] = yy at hy hdr
            have HD := Lib.hid hdr
            have ym : yy ∈ usedP 1000 G pg := H3.out.2.1.mem_iff.1 (by rw [hdr]; exact List.mem_cons_self ..)
            obtain ⟨wf3, _, _⟩ := H3.out.1.wf
            obtain ⟨d, hd, dy, _⟩ := usedP_mem ym
            have wd := cells_within (by omega : 1 ≤ G) wf3 hd
            have yin : 1000 ≤ yy ∧ yy ≤ 9223372036854775807 := by
              obtain ⟨k, X, hX, hdX⟩ := mem_cellsP.1 hd
              have kl := (List.getElem?_eq_some_iff.1 hX).1
              have e := (cell_pages (by omega : 1 ≤ G) wf3 hX hdX).1
              rw [dy] at wd e
              refine ⟨wd.1, ?_⟩
              have := H3.out.2.2
              unfold ofI at e
              rw [tdiv_of (by omega)] at e
              have h1 := Int.mul_ediv_add_emod (yy - 1000) G
              have h2 := Int.emod_lt_of_pos (yy - 1000) (show 0 < G by omega)
              rw [e] at h1
              have h3 : G * (k : Int) ≤ 135 * 19 := Int.mul_le_mul (by omega) (by omega) (by omega) (by omega)
              omega
            have YM := Lib.hid ym
            have WF3 := Lib.hid wf3
            obtain ⟨lo', lcap', e, hat⟩ := H3.out.1.own.at_
            cases e
            obtain ⟨gl, rfl, _, glt3, lc, _⟩ := hat j yy hy
            have l0 := lc j yy hy
            have k0 : (0 : Int) ≤ (j : Int) := by omega
            have k1 : (j : Int) < (ys.length : Int) := by omega
            clear lc hat hy hdr ym wf3 hd dy wd
            go_wp2_with fail
            refine (sGive H3.out.1 yy (by omega) (by omega)).mono ?_
            rintro e v3 ⟨ok, pg3, ps3, rfl, t3, h4⟩
            obtain rfl : ok = true := give_ok t3 YM.out
            obtain ⟨up, _⟩ := give_used (by omega) WF3.out t3
            have H4 := Lib.hid (show Sol M w v3 b 1000 G ps3 pg3 (.slice (some ⟨gl, 0, none⟩) ys.length lcap) ys ∧ (ys.drop (j + 1)).Perm (usedP 1000 G pg3) ∧ pg3.length = N from ⟨h4, by
              have := H3.out.2.1
              rw [HD.out] at this
              exact (this.trans up).cons_inv, by rw [t3.length.1]; exact H3.out.2.2⟩)
            clear h4 t3 up H3 l0
            go_wp2
            go_roundw
            case rel => exact ⟨j + 1, pg3, ps3, by omega, by go_num, H4⟩
            case measure => simp [intOf]; omega
          · obtain rfl : j = ys.length := by omega
            have un : usedP 1000 G pg = [] := List.nil_perm.1 (by have := H3.out.2.1; rw [List.drop_length] at this; exact this)
            obtain ⟨all, none⟩ := used_none H3.out.1.wf.1 un
            have CF := Lib.hid (show pg.countP Pg.isFree = N from by
              rw [← H3.out.2.2, List.countP_eq_length]
              exact fun q hq => by rw [all q hq]; rfl)
            have UZ := Lib.hid (show usedI (cellsP 1000 G pg) = 0 from by rw [none]; rfl)
            have ST := Lib.hid (show startsP 1000 G pg 0 1073741824 = [] from by rw [startsP, none]; rfl)
            have HB := Lib.hid H3.out.1.below
            obtain ⟨S3, hm, _⟩ := H3.out.1
            have HM := Lib.hid hm
            clear hm H3 un all none
            go_wp2_with fail
            refine (awake5_any M _).mono ?_
            rintro e w9 ⟨rfl, b9⟩
            have m9 := Lib.hid (M.keep HM.out b9)
            have b9 := below_trans HB.out b9
            go_wp2_with fail
            refine (M.used m9.out).mono ?_
            rintro e w10 ⟨rfl, b10⟩
            rw [UZ.out]
            have m10 := Lib.hid (M.keep m9.out b10)
            have b10 := below_trans b9 b10
            go_wp2_with fail
            refine (M.free m10.out).mono ?_
            rintro e w11 ⟨rfl, b11⟩
            rw [CF.out]
            have m11 := Lib.hid (M.keep m10.out b11)
            have b11 := below_trans b10 b11
            go_wp2_with fail
            refine (M.starts 0 1073741824 m11.out (by omega) (by omega) (by omega) (by omega)).mono ?_
            rintro e w12 ⟨u, rfl, o12, b12⟩
            rw [ST.out] at o12
            obtain ⟨lo9, lcap9, hu, _⟩ := o12.at_
            subst hu
            have b12 := below_trans b11 b12
            go_wp2
            go_ret
            exact ⟨rfl, b12⟩
      · obtain rfl : i = n := by omega
        go_wp2_with fail
        go_loopw [19] (fun s19 wr' => ∃ (j : Nat) (pg : List Pg) (ps : List Bool), j ≤ ys.length ∧ s19 = .int .i64 j ∧ Hid (Sol M w wr' b 1000 G ps pg (.slice lo ys.length lcap) ys ∧ (ys.drop j).Perm (usedP 1000 G pg) ∧ pg.length = N)) (fun s19 _ => ys.length - (intOf s19).toNat)
        case atStart => exact ⟨0, pgs, _, Nat.zero_le _, rfl, HS2⟩
        case round =>
          clear HS2
          obtain ⟨j, pg, ps, hj, rfl, H3⟩ := hrel
          by_cases jlt : j < ys.length
          · have hy : ys[j]? = some ys[j] := List.getElem?_eq_getElem jlt
            have hdr : ys.drop j = ys[j] :: ys.drop (j + 1) := List.drop_eq_getElem_cons jlt
            generalize ys[j] = yy at hy hdr
            have HD := Lib.hid hdr
            have ym : yy ∈ usedP 1000 G pg := H3.out.2.1.mem_iff.1 (by rw [hdr]; exact List.mem_cons_self ..)
            obtain ⟨wf3, _, _⟩ := H3.out.1.wf
            obtain ⟨d, hd, dy, _⟩ := usedP_mem ym
            have wd := cells_within (by omega : 1 ≤ G) wf3 hd
            have yin : 1000 ≤ yy ∧ yy ≤ 9223372036854775807 := by
              obtain ⟨k, X, hX, hdX⟩ := mem_cellsP.1 hd
              have kl := (List.getElem?_eq_some_iff.1 hX).1
              have e := (cell_pages (by omega : 1 ≤ G) wf3 hX hdX).1
              rw [dy] at wd e
              refine ⟨wd.1, ?_⟩
              have := H3.out.2.2
              unfold ofI at e
              rw [tdiv_of (by omega)] at e
              have h1 := Int.mul_ediv_add_emod (yy - 1000) G
              have h2 := Int.emod_lt_of_pos (yy - 1000) (show 0 < G by omega)
              rw [e] at h1
              have h3 : G * (k : Int) ≤ 135 * 19 := Int.mul_le_mul (by omega) (by omega) (by omega) (by omega)
              omega
            have YM := Lib.hid ym
            have WF3 := Lib.hid wf3
            obtain ⟨lo', lcap', e, hat⟩ := H3.out.1.own.at_
            cases e
            obtain ⟨gl, rfl, _, glt3, lc, _⟩ := hat j yy hy
            have l0 := lc j yy hy
            have k0 : (0 : Int) ≤ (j : Int) := by omega
            have k1 : (j : Int) < (ys.length : Int) := by omega
            clear lc hat hy hdr ym wf3 hd dy wd
            go_wp2_with fail
            refine (sGive H3.out.1 yy (by omega) (by omega)).mono ?_
            rintro e v3 ⟨ok, pg3, ps3, rfl, t3, h4⟩
            obtain rfl : ok = true := give_ok t3 YM.out
            obtain ⟨up, _⟩ := give_used (by omega) WF3.out t3
            have H4 := Lib.hid (show Sol M w v3 b 1000 G ps3 pg3 (.slice (some ⟨gl, 0, none⟩) ys.length lcap) ys ∧ (ys.drop (j + 1)).Perm (usedP 1000 G pg3) ∧ pg3.length = N from ⟨h4, by
              have := H3.out.2.1
              rw [HD.out] at this
              exact (this.trans up).cons_inv, by rw [t3.length.1]; exact H3.out.2.2⟩)
            clear h4 t3 up H3 l0
            go_wp2
            go_roundw
            case rel => exact ⟨j + 1, pg3, ps3, by omega, by go_num, H4⟩
            case measure => simp [intOf]; omega
          · obtain rfl : j = ys.length := by omega
            have un : usedP 1000 G pg = [] := List.nil_perm.1 (by have := H3.out.2.1; rw [List.drop_length] at this; exact this)
            obtain ⟨all, none⟩ := used_none H3.out.1.wf.1 un
            have CF := Lib.hid (show pg.countP Pg.isFree = N from by
              rw [← H3.out.2.2, List.countP_eq_length]
              exact fun q hq => by rw [all q hq]; rfl)
            have UZ := Lib.hid (show usedI (cellsP 1000 G pg) = 0 from by rw [none]; rfl)
            have ST := Lib.hid (show startsP 1000 G pg 0 1073741824 = [] from by rw [startsP, none]; rfl)
            have HB := Lib.hid H3.out.1.below
            obtain ⟨S3, hm, _⟩ := H3.out.1
            have HM := Lib.hid hm
            clear hm H3 un all none
            go_wp2_with fail
            refine (awake5_any M _).mono ?_
            rintro e w9 ⟨rfl, b9⟩
            have m9 := Lib.hid (M.keep HM.out b9)
            have b9 := below_trans HB.out b9
            go_wp2_with fail
            refine (M.used m9.out).mono ?_
            rintro e w10 ⟨rfl, b10⟩
            rw [UZ.out]
            have m10 := Lib.hid (M.keep m9.out b10)
            have b10 := below_trans b9 b10
            go_wp2_with fail
            refine (M.free m10.out).mono ?_
            rintro e w11 ⟨rfl, b11⟩
            rw [CF.out]
            have m11 := Lib.hid (M.keep m10.out b11)
            have b11 := below_trans b10 b11
            go_wp2_with fail
            refine (M.starts 0 1073741824 m11.out (by omega) (by omega) (by omega) (by omega)).mono ?_
            rintro e w12 ⟨u, rfl, o12, b12⟩
            rw [ST.out] at o12
            obtain ⟨lo9, lcap9, hu, _⟩ := o12.at_
            subst hu
            have b12 := below_trans b11 b12
            go_wp2
            go_ret
            exact ⟨rfl, b12⟩
end Go.Proofs.Ytinoeofimajpdaa
