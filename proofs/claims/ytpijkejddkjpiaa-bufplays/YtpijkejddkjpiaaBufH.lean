/- BufPlays: a row of any size, by any numbers that come and go. -/
import Derived.Test.YtpijkejddkjpiaaBufE
import Derived.Test.YtpijkejddkjpiaaFlagsR
namespace Go.Proofs.Ytpijkejddkjpiaa
open Go.RowKit Go.ChangeShapes Go.WideShapes

/-- A buffer that holds ys, made since w0, and beside it a slice (A, n, c) of own memory that holds zs. -/
structure Pl (w0 w : World) (b : Nat) (M : Int) (ys : List Int) (A : Option Addr) (n c : Nat) (zs : List Int) : Prop where
  buf : ∃ A' c', IsBuf w b M A' ys.length c' ys ∧ ∀ k, blkOf A' = some k → w0.heap.size ≤ k ∧ blkOf A ≠ some k
  row : Qu w A n c zs
  r0 : ∀ k, blkOf A = some k → w0.heap.size ≤ k
  b0 : w0.heap.size ≤ b
  bel : Below w0.heap.size w0 w

section
variable {w0 w w' : World} {b n c : Nat} {M : Int} {ys zs : List Int} {A : Option Addr} {y : Int}

theorem Pl.start (h : Bs w0 w b M []) : Pl w0 (w.alloc (.cells #[] 3)) b M [] (some ⟨w.heap.size, 0, none⟩) 0 0 [] := by
  have f : Below w.heap.size w (w.alloc (.cells #[] 3)) := (Below.refl _ _).alloc (Nat.le_refl _) _
  have h' := h.keep f
  obtain ⟨A', c', hb, hk⟩ := h.buf
  refine ⟨⟨A', c', hb.keep f, fun k e => ⟨hk k e, fun e2 => ?_⟩⟩, Qu.fresh w, fun k e => by cases e; exact h.bel.size, h.b0, h'.bel⟩
  cases e2
  exact Nat.lt_irrefl _ (hb.row.lt e)

theorem Pl.keep (h : Pl w0 w b M ys A n c zs) (f : Below w.heap.size w w') : Pl w0 w' b M ys A n c zs := by
  obtain ⟨⟨A', c', hb, hk⟩, row, r0, b0, bel⟩ := h
  exact ⟨⟨A', c', hb.keep f, hk⟩, row.keep f, r0, b0, below_trans bel f⟩

theorem Pl.ne (h : Pl w0 w b M ys A n c zs) {k : Nat} (hk : blkOf A = some k) : b ≠ k := by
  obtain ⟨A', c', hb, _⟩ := h.buf
  rcases h.row.lies with ⟨rfl, _⟩ | ⟨g, off, cs, rfl, hg, _⟩
  · cases hk
  · cases hk
    exact Blk.ne_ hb.blk hg (by decide)

/-- The buffer has turned. -/
theorem Pl.turned {ys' : List Int} {n' c1 c2 : Nat} {A1 A2 : Option Addr} (h : Pl w0 w b M ys A n c zs) (hb : IsBuf w b M A1 ys.length c1 ys) (hk : ∀ k, blkOf A1 = some k → w0.heap.size ≤ k ∧ blkOf A ≠ some k)
    (h' : IsBuf w' b M A2 n' c2 ys') (t : BufT b A1 A2 w w') : Pl w0 w' b M ys' A n c zs := by
  have hs : Bs w0 w' b M ys' := Bs.turned hb (fun k e => (hk k e).1) h.b0 h.bel h' t
  obtain rfl : ys'.length = n' := h'.row.len
  refine ⟨⟨A2, c2, h', fun k e => ?_⟩, h.row.frm t.frm ?_, h.r0, h.b0, hs.bel⟩
  · rcases t.at_ k e with e1 | hlt
    · exact hk k e1
    · exact ⟨Nat.le_trans h.bel.size hlt, fun e2 => by have := h.row.lt e2; omega⟩
  · rintro k e (rfl | e1)
    · exact h.ne e rfl
    · exact (hk k e1).2 e

/-- The slice beside it has grown. -/
theorem Pl.grown {A2 : Option Addr} {n' c' : Nat} {zs' : List Int} (h : Pl w0 w b M ys A n c zs) (q : Qu w' A2 n' c' zs') (g : Grw A A2 w w') : Pl w0 w' b M ys A2 n' c' zs' := by
  obtain ⟨A', c1, hb, hk⟩ := h.buf
  refine ⟨⟨A', c1, hb.frm g.frm (fun e => h.ne e rfl) (fun k e e2 => (hk k e).2 e2), fun k e => ⟨(hk k e).1, fun e2 => ?_⟩⟩, q, fun k e => ?_, h.b0, Below.frm h.bel g.frm h.bel.size (fun k hlt e => ?_)⟩
  · rcases g.at_ k e2 with e1 | hlt
    · exact (hk k e).2 e1
    · have := hb.row.lt e
      omega
  · rcases g.at_ k e with e1 | hlt
    · exact h.r0 k e1
    · exact Nat.le_trans h.bel.size hlt
  · have := h.r0 k e
    omega

theorem Pl.tail {g off : Nat} (h : Pl w0 w b M ys (some ⟨g, off, none⟩) (n + 1) c (y :: zs)) (hc : 1 < c) : Pl w0 w b M ys (some ⟨g, off + 1, none⟩) n (c - 1) zs := ⟨h.buf, h.row.tail hc, h.r0, h.b0, h.bel⟩
theorem Pl.tail1 {g off : Nat} (h : Pl w0 w b M ys (some ⟨g, off, none⟩) (n + 1) 1 (y :: zs)) : Pl w0 w b M ys (some ⟨g, off, none⟩) 0 0 zs := ⟨h.buf, h.row.tail1.1, h.r0, h.b0, h.bel⟩

theorem pl_put_yes (h : Pl w0 w b M ys A n c zs) (hn : (ys.length : Int) < M) (x : Int) :
    Calls Try.prog 10 #[bfP b, .int .i64 x] w fun e w' => e = .returned (.bool true) ∧ Pl w0 w' b M (ys ++ [x]) A n c zs := by
  obtain ⟨A1, c1, hb, hk⟩ := h.buf
  exact (bfPut_yes b M A1 _ c1 ys x w hb hn).mono fun _ _ ⟨he, A2, c2, h', t⟩ => ⟨he, h.turned hb hk h' t⟩

theorem pl_put_no (h : Pl w0 w b M ys A n c zs) (hn : M ≤ ys.length) (x : Int) :
    Calls Try.prog 10 #[bfP b, .int .i64 x] w fun e w' => e = .returned (.bool false) ∧ Pl w0 w' b M ys A n c zs := by
  obtain ⟨A1, c1, hb, hk⟩ := h.buf
  exact (bfPut_no b M A1 _ c1 ys x w hb hn).mono fun _ _ ⟨he, bb⟩ => ⟨he, h.keep bb⟩

theorem pl_take_yes (h : Pl w0 w b M (y :: ys) A n c zs) :
    Calls Try.prog 9 #[bfP b] w fun e w' => e = .returned (.tuple #[.int .i64 y, .bool true]) ∧ Pl w0 w' b M ys A n c zs := by
  obtain ⟨A1, c1, hb, hk⟩ := h.buf
  exact (bfTake_yes b M A1 ys.length c1 ys y w hb).mono fun _ _ ⟨he, A2, c2, h', t⟩ => ⟨he, h.turned hb hk h' t⟩

theorem pl_take_no (h : Pl w0 w b M [] A n c zs) :
    Calls Try.prog 9 #[bfP b] w fun e w' => e = .returned (.tuple #[.int .i64 0, .bool false]) ∧ w = w' := by
  obtain ⟨A1, c1, hb, hk⟩ := h.buf
  exact bfTake_no b M A1 c1 w hb

theorem pl_len (h : Pl w0 w b M ys A n c ys) : Calls Try.prog 11 #[bfP b] w fun e w' => e = .returned (.int .i64 n) ∧ w = w' := by
  obtain ⟨A1, c1, hb, hk⟩ := h.buf
  have hl := h.row.len
  subst hl
  exact bfLen_any b M A1 _ c1 ys w hb

theorem pl_all (h : Pl w0 w b M ys A n c ys) :
    Calls Try.prog 13 #[bfP b] w fun e w' => ∃ A' c', e = .returned (.slice A' n c') ∧ Qu w' A' n c' ys ∧ Pl w0 w' b M ys A n c ys := by
  obtain ⟨A1, c1, hb, hk⟩ := h.buf
  have hl := h.row.len
  subst hl
  exact (bfAll_any b M A1 _ c1 ys w hb).mono fun _ _ ⟨A', c', he, q, bb, _⟩ => ⟨A', c', he, q, h.keep bb⟩
end

theorem few_lt {N i : Nat} (hN : N ≤ i) (hk : i ≤ 80) : (N : Int) < 1048576 := by omega

theorem fits_iff {N : Nat} {m : Int} (h : N < 1048576) : (N : Int) < cutI m 0 1048576 ↔ (N : Int) < m := by
  unfold cutI
  split
  · omega
  · split <;> omega

set_option maxRecDepth 100000 in
set_option maxHeartbeats 8000000 in
theorem bufPlays_walk (m : Int) (A : Option Addr) (n c : Nat) (xs : List Int) (B : Option Addr) (tn tc : Nat) (w : World) (rd : Rd .i64 w A n xs) (hn : n ≤ c) (hc : c ≤ maxLen) (rb : RdB w B tn) (tn1 : tn ≤ tc) (tc1 : tc ≤ maxLen) :
    Calls Try.prog 3 #[.int .i64 m, .slice A n c, .slice B tn tc] w fun e w' => e = .returned (.bool true) ∧ Below w.heap.size w w' := by
  have nm : n ≤ 9223372036854775807 := by simp only [maxLen] at hc; omega
  have tm : tn ≤ 9223372036854775807 := by simp only [maxLen] at tc1; omega
  have RD := Lib.hid rd
  have RB := Lib.hid rb
  clear rd hc hn rb tn1 tc1
  go_enter Try.func3, Try.ntmps3
  go_wp2_with fail
  refine (bs_new m (Below.refl _ w)).mono ?_
  rintro e w1 ⟨b, rfl, s⟩
  have HP := Lib.hid (Pl.start s)
  clear s
  unfold bfP
  obtain ⟨M, hM⟩ : ∃ M, cutI m 0 1048576 = M := ⟨_, rfl⟩
  rw [hM] at HP
  have FI := Lib.hid (show ∀ N : Nat, N < 1048576 → ((N : Int) < M ↔ (N : Int) < m) from fun N h => by rw [← hM]; exact fits_iff h)
  clear hM
  go_wp2_with fail
  go_loopw [8, 9] (fun s8 s9 wr => ∃ (i N c2 : Nat) (A2 : Option Addr) (ys : List Int), i ≤ n ∧ i ≤ 80 ∧ N ≤ i ∧ s8 = .slice A2 N c2 ∧ s9 = .int .i64 i ∧ Hid (Pl w wr b M ys A2 N c2 ys)) (fun _ s9 _ => 80 - (intOf s9).toNat)
  case atStart => exact ⟨0, 0, 0, _, [], Nat.zero_le _, by omega, Nat.le_refl _, rfl, rfl, HP⟩
  case round =>
    obtain ⟨i, N, c2, A2, ys, hi, hk, hN, rfl, rfl, HB⟩ := hrel
    clear HP
    by_cases l1 : i < n
    · by_cases l2 : i < 80
      · have hl := HB.out.row.len
        have NF := Lib.hid (show N ≤ 1048576 by omega)
        by_cases l3 : i < tn
        · obtain ⟨bd, v, rfl, hv0⟩ := RB.out i l3
          have hv := hv0 wr HB.out.bel
          clear hv0
          cases v
          · obtain ⟨ad, x, rfl, hx, hcell⟩ := RD.out.at_ HB.out.bel l1
            have HX := Lib.hid hx
            clear hx
            by_cases hf : (N : Int) < m
            · have HF := Lib.hid (show (ys.length : Int) < M from by rw [hl]; exact (FI.out N (by omega)).2 hf)
              clear hl
              go_wp2_with fail
              refine (pl_put_yes HB.out HF.out x).mono ?_
              rintro e w2 ⟨rfl, s⟩
              rw [show decide ((N : Int) < 1048576) = true from decide_eq_true (few_lt hN hk)]
              have HP := Lib.hid s
              obtain ⟨ad4, x4, e4, hx4, hc4⟩ := RD.out.at_ HP.out.bel l1
              cases e4
              obtain rfl : x4 = x := by
                have h3 := HX.out
                rw [hx4] at h3
                cases h3
                rfl
              have H2 := Lib.hid (HP.out.keep ((Below.refl _ _).alloc (Nat.le_refl _) (.cells #[.int .i64 x4] 3)))
              have e2 := Lib.hid (show (w2.alloc (.cells #[.int .i64 x4] 3)).cell? ⟨w2.heap.size, 0, none⟩ = some (.int .i64 x4) from (Blk.new w2 #[.int .i64 x4] 3).cell 0)
              clear s HP HB HF hcell hx4
              go_wp2_with (first
                | (at_builtin; (refine wpList_append_qu _ rfl _ _ rfl H2.out.row NF.out x4 ⟨w2.heap.size, 0, none⟩ 1 rfl rfl e2.out ?_))
                | fail)
              intro A4 c4 w4 q g
              have HB := Lib.hid (H2.out.grown q g)
              clear q g H2 e2 hc4
              go_wp2_with fail
              refine (pl_len HB.out).mono ?_
              rintro e w5 ⟨rfl, rfl⟩
              go_wp2_with fail
              refine (pl_all HB.out).mono ?_
              rintro e w6 ⟨A3, c3, rfl, q, s⟩
              have HB := Lib.hid s
              have HQ := Lib.hid q
              clear s q
              go_wp2_with fail
              refine (ints_qu _ _ _ _ _ _ _ HQ.out HB.out.row (by omega)).mono ?_
              rintro e w7 ⟨rfl, bb⟩
              have HB := Lib.hid (HB.out.keep bb)
              clear bb HQ
              go_wp2
              go_roundw
              case rel => exact ⟨i + 1, N + 1, c4, _, ys ++ [x4], by omega, by omega, by omega, rfl, by go_num, HB⟩
              case measure => simp [intOf]; omega
            · have HF := Lib.hid (show M ≤ (ys.length : Int) from by rw [hl]; have := (FI.out N (by omega)); omega)
              clear hl
              go_wp2_with fail
              refine (pl_put_no HB.out HF.out x).mono ?_
              rintro e w2 ⟨rfl, s⟩
              have HB := Lib.hid s
              clear s hcell HF
              go_wp2_with fail
              refine (pl_len HB.out).mono ?_
              rintro e w5 ⟨rfl, rfl⟩
              go_wp2_with fail
              refine (pl_all HB.out).mono ?_
              rintro e w6 ⟨A3, c3, rfl, q, s⟩
              have HB := Lib.hid s
              have HQ := Lib.hid q
              clear s q
              go_wp2_with fail
              refine (ints_qu _ _ _ _ _ _ _ HQ.out HB.out.row (by omega)).mono ?_
              rintro e w7 ⟨rfl, bb⟩
              have HB := Lib.hid (HB.out.keep bb)
              clear bb HQ
              go_wp2
              go_roundw
              case rel => exact ⟨i + 1, N, c2, _, ys, by omega, by omega, by omega, rfl, by go_num, HB⟩
              case measure => simp [intOf]; omega
          · cases ys with
            | nil =>
              obtain rfl : N = 0 := hl.symm
              clear hl
              go_wp2_with fail
              refine (pl_take_no HB.out).mono ?_
              rintro e w2 ⟨rfl, rfl⟩
              clear hv
              go_wp2_with fail
              refine (pl_len HB.out).mono ?_
              rintro e w5 ⟨rfl, rfl⟩
              go_wp2_with fail
              refine (pl_all HB.out).mono ?_
              rintro e w6 ⟨A3, c3, rfl, q, s⟩
              have HB := Lib.hid s
              have HQ := Lib.hid q
              clear s q
              go_wp2_with fail
              refine (ints_qu _ _ _ _ _ _ _ HQ.out HB.out.row (by omega)).mono ?_
              rintro e w7 ⟨rfl, bb⟩
              have HB := Lib.hid (HB.out.keep bb)
              clear bb HQ
              go_wp2
              go_roundw
              case rel => exact ⟨i + 1, 0, c2, _, [], by omega, by omega, by omega, rfl, by go_num, HB⟩
              case measure => simp [intOf]; omega
            | cons y ys =>
              obtain ⟨N, rfl⟩ : ∃ N', N = N' + 1 := ⟨ys.length, hl.symm⟩
              obtain ⟨g, off, rfl, _, _, _⟩ := HB.out.row.at_ (by omega)
              have le := HB.out.row.le
              have cm := HB.out.row.max
              unfold maxLen at cm
              clear hl
              by_cases h0 : c2 = 1
              · subst h0
                obtain rfl : N = 0 := by omega
                go_wp2_with fail
                refine (pl_take_yes HB.out).mono ?_
                rintro e w2 ⟨rfl, s⟩
                have x0 : w2.cell? ⟨g, off, none⟩ = some (.int .i64 y) := by
                  obtain ⟨g1, o1, e1, _, hx, _⟩ := s.row.at_ (by omega)
                  cases e1
                  exact hx 0 y rfl
                have HB := Lib.hid s.tail1
                clear s hv
                go_wp2_with fail
                refine (pl_len HB.out).mono ?_
                rintro e w5 ⟨rfl, rfl⟩
                go_wp2_with fail
                refine (pl_all HB.out).mono ?_
                rintro e w6 ⟨A3, c3, rfl, q, s⟩
                have HB := Lib.hid s
                have HQ := Lib.hid q
                clear s q
                go_wp2_with fail
                refine (ints_qu _ _ _ _ _ _ _ HQ.out HB.out.row (by omega)).mono ?_
                rintro e w7 ⟨rfl, bb⟩
                have HB := Lib.hid (HB.out.keep bb)
                clear bb HQ
                go_wp2
                go_roundw
                case rel => exact ⟨i + 1, 0, 0, _, ys, by omega, by omega, by omega, rfl, by go_num, HB⟩
                case measure => simp [intOf]; omega
              · have h1 : 1 < c2 := by omega
                go_wp2_with fail
                refine (pl_take_yes HB.out).mono ?_
                rintro e w2 ⟨rfl, s⟩
                have x0 : w2.cell? ⟨g, off, none⟩ = some (.int .i64 y) := by
                  obtain ⟨g1, o1, e1, _, hx, _⟩ := s.row.at_ (by omega)
                  cases e1
                  exact hx 0 y rfl
                have HB := Lib.hid (s.tail h1)
                clear s hv
                go_wp2_with fail
                refine (pl_len HB.out).mono ?_
                rintro e w5 ⟨rfl, rfl⟩
                go_wp2_with fail
                refine (pl_all HB.out).mono ?_
                rintro e w6 ⟨A3, c3, rfl, q, s⟩
                have HB := Lib.hid s
                have HQ := Lib.hid q
                clear s q
                go_wp2_with fail
                refine (ints_qu _ _ _ _ _ _ _ HQ.out HB.out.row (by omega)).mono ?_
                rintro e w7 ⟨rfl, bb⟩
                have HB := Lib.hid (HB.out.keep bb)
                clear bb HQ
                go_wp2
                go_roundw
                case rel => exact ⟨i + 1, N, c2 - 1, _, ys, by omega, by omega, by omega, rfl, by go_num, HB⟩
                case measure => simp [intOf]; omega
        · obtain ⟨ad, x, rfl, hx, hcell⟩ := RD.out.at_ HB.out.bel l1
          have HX := Lib.hid hx
          clear hx
          by_cases hf : (N : Int) < m
          · have HF := Lib.hid (show (ys.length : Int) < M from by rw [hl]; exact (FI.out N (by omega)).2 hf)
            clear hl
            go_wp2_with fail
            refine (pl_put_yes HB.out HF.out x).mono ?_
            rintro e w2 ⟨rfl, s⟩
            rw [show decide ((N : Int) < 1048576) = true from decide_eq_true (few_lt hN hk)]
            have HP := Lib.hid s
            obtain ⟨ad4, x4, e4, hx4, hc4⟩ := RD.out.at_ HP.out.bel l1
            cases e4
            obtain rfl : x4 = x := by
              have h3 := HX.out
              rw [hx4] at h3
              cases h3
              rfl
            have H2 := Lib.hid (HP.out.keep ((Below.refl _ _).alloc (Nat.le_refl _) (.cells #[.int .i64 x4] 3)))
            have e2 := Lib.hid (show (w2.alloc (.cells #[.int .i64 x4] 3)).cell? ⟨w2.heap.size, 0, none⟩ = some (.int .i64 x4) from (Blk.new w2 #[.int .i64 x4] 3).cell 0)
            clear s HP HB HF hcell hx4
            go_wp2_with (first
              | (at_builtin; (refine wpList_append_qu _ rfl _ _ rfl H2.out.row NF.out x4 ⟨w2.heap.size, 0, none⟩ 1 rfl rfl e2.out ?_))
              | fail)
            intro A4 c4 w4 q g
            have HB := Lib.hid (H2.out.grown q g)
            clear q g H2 e2 hc4
            go_wp2_with fail
            refine (pl_len HB.out).mono ?_
            rintro e w5 ⟨rfl, rfl⟩
            go_wp2_with fail
            refine (pl_all HB.out).mono ?_
            rintro e w6 ⟨A3, c3, rfl, q, s⟩
            have HB := Lib.hid s
            have HQ := Lib.hid q
            clear s q
            go_wp2_with fail
            refine (ints_qu _ _ _ _ _ _ _ HQ.out HB.out.row (by omega)).mono ?_
            rintro e w7 ⟨rfl, bb⟩
            have HB := Lib.hid (HB.out.keep bb)
            clear bb HQ
            go_wp2
            go_roundw
            case rel => exact ⟨i + 1, N + 1, c4, _, ys ++ [x4], by omega, by omega, by omega, rfl, by go_num, HB⟩
            case measure => simp [intOf]; omega
          · have HF := Lib.hid (show M ≤ (ys.length : Int) from by rw [hl]; have := (FI.out N (by omega)); omega)
            clear hl
            go_wp2_with fail
            refine (pl_put_no HB.out HF.out x).mono ?_
            rintro e w2 ⟨rfl, s⟩
            have HB := Lib.hid s
            clear s hcell HF
            go_wp2_with fail
            refine (pl_len HB.out).mono ?_
            rintro e w5 ⟨rfl, rfl⟩
            go_wp2_with fail
            refine (pl_all HB.out).mono ?_
            rintro e w6 ⟨A3, c3, rfl, q, s⟩
            have HB := Lib.hid s
            have HQ := Lib.hid q
            clear s q
            go_wp2_with fail
            refine (ints_qu _ _ _ _ _ _ _ HQ.out HB.out.row (by omega)).mono ?_
            rintro e w7 ⟨rfl, bb⟩
            have HB := Lib.hid (HB.out.keep bb)
            clear bb HQ
            go_wp2
            go_roundw
            case rel => exact ⟨i + 1, N, c2, _, ys, by omega, by omega, by omega, rfl, by go_num, HB⟩
            case measure => simp [intOf]; omega
      · obtain rfl : i = 80 := by omega
        go_wp2_with fail
        refine (bfAwake_walk wr).mono ?_
        rintro e w3 ⟨rfl, bb⟩
        have HE := Lib.hid (HB.out.keep bb)
        clear bb
        go_wp2
        go_ret
        exact ⟨rfl, HE.out.bel⟩
    · obtain rfl : i = n := by omega
      go_wp2_with fail
      refine (bfAwake_walk wr).mono ?_
      rintro e w3 ⟨rfl, bb⟩
      have HE := Lib.hid (HB.out.keep bb)
      clear bb
      go_wp2
      go_ret
      exact ⟨rfl, HE.out.bel⟩
end Go.Proofs.Ytpijkejddkjpiaa
