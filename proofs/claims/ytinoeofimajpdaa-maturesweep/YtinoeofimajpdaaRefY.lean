/- Contract of the document's Take of what is not large. -/
import Derived.Test.YtinoeofimajpdaaRefX
namespace Go.Proofs.Ytinoeofimajpdaa
open Go.RowKit

/-- A cell of a block of that size which is not in use, in a page that is not pending. -/
def candB (F G : Int) (ps : List Bool) (s : Int) (c : Rc) : Bool := !c.used && !c.large && decide (c.words = s) && !((ps[(ofI F G c.pos).toNat]?).getD false)

/-- The first of them among the first j, as the loop knows it. -/
def Best (F G : Int) (ps : List Bool) (s : Int) (cs : List Rc) (j : Nat) (b : Int) : Prop :=
  (b = -1 ∧ ∀ (i : Nat) c, i < j → cs[i]? = some c → candB F G ps s c = false) ∨
  (∃ (k : Nat) (c : Rc), b = k ∧ cs[k]? = some c ∧ candB F G ps s c = true ∧ ∀ (i : Nat) d, i < j → cs[i]? = some d → candB F G ps s d = true → c.pos ≤ d.pos)

theorem Best.skip {F G : Int} {ps : List Bool} {s : Int} {cs : List Rc} {j : Nat} {b : Int} {c : Rc} (h : Best F G ps s cs j b) (hc : cs[j]? = some c) (hn : candB F G ps s c = false) : Best F G ps s cs (j + 1) b := by
  rcases h with ⟨h0, h1⟩ | ⟨k, d, h0, h1, h2, h3⟩
  · refine Or.inl ⟨h0, fun i x hi hx => ?_⟩
    by_cases e : i = j
    · subst e; obtain rfl : c = x := by have := hc.symm.trans hx; simpa using this
      exact hn
    · exact h1 i x (by omega) hx
  · refine Or.inr ⟨k, d, h0, h1, h2, fun i x hi hx hcx => ?_⟩
    by_cases e : i = j
    · subst e; obtain rfl : c = x := by have := hc.symm.trans hx; simpa using this
      rw [hn] at hcx; cases hcx
    · exact h3 i x (by omega) hx hcx

theorem Best.first {F G : Int} {ps : List Bool} {s : Int} {cs : List Rc} {j : Nat} {c : Rc} (h : Best F G ps s cs j (-1)) (hc : cs[j]? = some c) (hy : candB F G ps s c = true) : Best F G ps s cs (j + 1) j := by
  rcases h with ⟨_, h1⟩ | ⟨k, d, h0, _⟩
  · refine Or.inr ⟨j, c, rfl, hc, hy, fun i x hi hx hcx => ?_⟩
    by_cases e : i = j
    · subst e; obtain rfl : c = x := by have := hc.symm.trans hx; simpa using this
      exact Int.le_refl _
    · rw [h1 i x (by omega) hx] at hcx; cases hcx
  · omega

theorem Best.less {F G : Int} {ps : List Bool} {s : Int} {cs : List Rc} {j k : Nat} {c d : Rc} (h : Best F G ps s cs j (k : Int)) (hd : cs[k]? = some d) (hc : cs[j]? = some c) (hy : candB F G ps s c = true) (lt : c.pos < d.pos) : Best F G ps s cs (j + 1) j := by
  rcases h with ⟨h0, _⟩ | ⟨k', d', h0, h1, h2, h3⟩
  · omega
  · obtain rfl : k = k' := by omega
    obtain rfl : d = d' := by have := hd.symm.trans h1; simpa using this
    refine Or.inr ⟨j, c, rfl, hc, hy, fun i x hi hx hcx => ?_⟩
    by_cases e : i = j
    · subst e; obtain rfl : c = x := by have := hc.symm.trans hx; simpa using this
      exact Int.le_refl _
    · have := h3 i x (by omega) hx hcx
      omega

theorem Best.more {F G : Int} {ps : List Bool} {s : Int} {cs : List Rc} {j k : Nat} {c d : Rc} (h : Best F G ps s cs j (k : Int)) (hd : cs[k]? = some d) (hc : cs[j]? = some c) (ge : ¬ c.pos < d.pos) : Best F G ps s cs (j + 1) k := by
  rcases h with ⟨h0, _⟩ | ⟨k', d', h0, h1, h2, h3⟩
  · omega
  · obtain rfl : k = k' := by omega
    obtain rfl : d = d' := by have := hd.symm.trans h1; simpa using this
    refine Or.inr ⟨k, d, rfl, hd, h2, fun i x hi hx hcx => ?_⟩
    by_cases e : i = j
    · subst e; obtain rfl : c = x := by have := hc.symm.trans hx; simpa using this
      omega
    · exact h3 i x (by omega) hx hcx

/-- The cells of a new block. -/
def newC (p s : Int) (k : Nat) : List Rc := (List.range k).map fun (i : Nat) => ⟨p + i * s, s, decide (i = 0), false⟩

theorem newC_succ (p s : Int) (k : Nat) : newC p s (k + 1) = newC p s k ++ [⟨p + k * s, s, decide (k = 0), false⟩] := by simp [newC, List.range_succ]

/-- What Take of something that is not large does. -/
def TakeS (F G : Int) (N : Nat) (ps : List Bool) (cs : List Rc) (s : Int) (e : Value) (cs' : List Rc) : Prop :=
  (∃ (b : Nat) (c : Rc), cs[b]? = some c ∧ candB F G ps s c = true ∧ (∀ d ∈ cs, candB F G ps s d = true → c.pos ≤ d.pos) ∧ e = .tuple #[.int .i64 c.pos, .bool true] ∧ cs' = cs.set b { c with used := true }) ∨
  ((∀ c ∈ cs, candB F G ps s c = false) ∧
    ((∃ p : Nat, p < N ∧ freeB F G cs p = true ∧ (∀ q : Nat, q < p → freeB F G cs q = false) ∧ e = .tuple #[.int .i64 (F + p * G), .bool true] ∧ cs' = cs ++ newC (F + p * G) s (G / s).toNat) ∨
    ((∀ q : Nat, q < N → freeB F G cs q = false) ∧ e = .tuple #[.int .i64 0, .bool false] ∧ cs' = cs)))

set_option maxHeartbeats 8000000 in
set_option maxRecDepth 100000 in
theorem refTake_small (a : Nat) (F P G n : Int) (v : Value) (cs : List Rc) (pb : Nat) (ps : List Bool) (w : World) (h : IsRf w a F P G v cs pb ps) (hn : ¬ n < 1) (hs : ¬ G / 2 < roundI n) (hfew : cs.length ≤ 900000)
    (hpg : ∀ c ∈ cs, 0 ≤ ofI F G c.pos ∧ ofI F G c.pos < ps.length) :
    Calls Try.prog 11 #[spP a, .int .i64 n] w fun e w' => TookR a F P G v pb ps w (TakeS F G ps.length ps cs (roundI n)) e w' := by
  obtain rfl := h.pl
  have HH := Lib.hid h
  have f0 := h.f0
  have f1 := h.f1
  have g0 := h.g0
  have g1 := h.g1
  have p1 := h.p1
  have rin := roundI_in n
  have hR := refRound_any n w
  obtain ⟨s, hr⟩ : ∃ r, roundI n = r := ⟨_, rfl⟩
  rw [hr] at hR hs rin ⊢
  clear hr
  have HR := Lib.hid hR
  have hq : G.tdiv 2 = G / 2 := tdiv_of (by omega)
  obtain ⟨c0, c1, c2, c3, c4, cf⟩ := h.sp.five
  obtain ⟨ao, cap, rfl, _⟩ := h.lies
  have HPG := Lib.hid hpg
  clear hR h hpg
  unfold spP
  go_enter Try.func11, Try.ntmps11
  go_wp2_with fail
  refine HR.out.mono ?_
  rintro e w1 ⟨rfl, rfl⟩
  go_wp2_with fail
  clear c0 c1 c2 c3 c4 cf
  go_loopw [12, 13] (fun s12 s13 wr => ∃ (j : Nat) (b : Int), j ≤ cs.length ∧ s13 = .int .i64 j ∧ s12 = .int .i64 b ∧ -1 ≤ b ∧ b < cs.length ∧ Hid (Best F G ps s cs j b) ∧ Below w.heap.size w wr) (fun _ s13 _ => cs.length - (intOf s13).toNat)
  case atStart => exact ⟨0, -1, Nat.zero_le _, rfl, rfl, by omega, by omega, Lib.hid (Or.inl ⟨rfl, fun i c hi => by omega⟩), Below.refl _ _⟩
  case round =>
    obtain ⟨j, b, hj, rfl, rfl, b0, b1, HB, bb⟩ := hrel
    have hi := HH.out.keep bb
    obtain ⟨c0, c1, c2, c3, c4, cf⟩ := hi.sp.five
    by_cases hlt : j < cs.length
    · obtain ⟨c, hc⟩ : ∃ c, cs[j]? = some c := ⟨_, List.getElem?_eq_getElem hlt⟩
      obtain ⟨ao', cap', e, hl⟩ := hi.lies
      cases e
      obtain ⟨g, rfl, glt, d0, d1, d2, d3, df⟩ := hl j c hc
      obtain ⟨t0, t1, t2, t3⟩ := hi.sane c (List.mem_of_getElem? hc)
      have q01 := HPG.out c (List.mem_of_getElem? hc)
      obtain ⟨q, hq2⟩ : ∃ q, ofI F G c.pos = q := ⟨_, rfl⟩
      obtain ⟨x, hx⟩ : ∃ x, ps[q.toNat]? = some x := ⟨_, List.getElem?_eq_getElem (by omega)⟩
      have CB := Lib.hid (show candB F G ps s c = (!c.used && !c.large && decide (c.words = s) && !x) from by rw [candB, hq2, hx]; rfl)
      have pc := hi.pend.bools hx
      have KO := Lib.hid (fun m => of_any a F _ G c.pos _ _ _ (((hi.allocd (.cells #[.int .i64 c.pos, .int .i64 c.words, .bool c.used, .bool c.large] 58)).drewN m).sp) f0 f1 g0 (by omega) (by omega))
      have BA := Lib.hid (bb.alloc bb.size (.cells #[.int .i64 c.pos, .int .i64 c.words, .bool c.used, .bool c.large] 58))
      have plt : pb < wr.heap.size := hi.pend.lt
      have alt : a < wr.heap.size := hi.sp.lt
      rw [hq2] at KO q01
      have HC := Lib.hid hc
      have HL := Lib.hid hl
      clear hq2 hc hi hx hl
      unfold spP at KO
      cases u : c.used
      · rw [u] at CB KO BA d2
        cases l : c.large
        · rw [l] at CB KO BA d3
          by_cases ws : c.words = s
          · have wb : (c.words == s) = true := beq_iff_eq.2 ws
            have wd : decide (c.words = s) = true := decide_eq_true ws
            rw [ws] at KO BA
            cases x
            · have CY := Lib.hid (show candB F G ps s c = true from by rw [CB.out, decide_eq_true ws]; rfl)
              rcases Int.lt_or_le b 0 with bn | bn
              · obtain rfl : b = -1 := by omega
                go_wp2_with fail
                go_big_quiet ((go_at_call 36; refine Calls.quiet_of (KO.out _)))
                go_wp2
                go_roundw
                case rel => exact ⟨j + 1, j, by omega, by go_num, rfl, by omega, by omega, Lib.hid (HB.out.first HC.out CY.out), below_trans BA.out (below_drewN _ _)⟩
                case measure => simp [intOf]; omega
              · obtain ⟨k, rfl⟩ : ∃ k : Nat, b = k := ⟨b.toNat, by omega⟩
                obtain ⟨d, hd⟩ : ∃ d, cs[k]? = some d := ⟨_, List.getElem?_eq_getElem (by omega)⟩
                obtain ⟨g2, e, glt2, z0, z1, z2, z3, zf⟩ := HL.out k d hd
                cases e
                have HD := Lib.hid hd
                clear z1 z2 z3 zf hd
                have kd : decide ((k : Int) < 0) = false := decide_eq_false (by omega)
                by_cases lt : c.pos < d.pos
                · go_wp2_with fail
                  go_big_quiet ((go_at_call 36; refine Calls.quiet_of (KO.out _)))
                  go_wp2
                  go_roundw
                  case rel => exact ⟨j + 1, j, by omega, by go_num, rfl, by omega, by omega, Lib.hid (HB.out.less HD.out HC.out CY.out lt), below_trans BA.out (below_drewN _ _)⟩
                  case measure => simp [intOf]; omega
                · have ld : decide (c.pos < d.pos) = false := decide_eq_false lt
                  have HM := Lib.hid (HB.out.more HD.out HC.out lt)
                  go_wp2_with fail
                  go_big_quiet ((go_at_call 36; refine Calls.quiet_of (KO.out _)))
                  go_wp2
                  go_roundw
                  case rel => exact ⟨j + 1, k, by omega, by go_num, rfl, by omega, by omega, Lib.hid (HM.out), below_trans BA.out (below_drewN _ _)⟩
                  case measure => simp [intOf]; omega
            · have CN := Lib.hid (show candB F G ps s c = false from by rw [CB.out, Bool.not_true, Bool.and_false])
              go_wp2_with fail
              go_big_quiet ((go_at_call 36; refine Calls.quiet_of (KO.out _)))
              go_wp2
              go_roundw
              case rel => exact ⟨j + 1, b, by omega, by go_num, rfl, by omega, by omega, Lib.hid (HB.out.skip HC.out CN.out), below_trans BA.out (below_drewN _ _)⟩
              case measure => simp [intOf]; omega
          · have CN := Lib.hid (show candB F G ps s c = false from by rw [CB.out, decide_eq_false ws, Bool.and_false, Bool.false_and])
            have wd : decide (c.words = s) = false := decide_eq_false ws
            have wb : (c.words == s) = false := beq_eq_false_iff_ne.2 ws
            go_wp2_with fail
            go_big_quiet ((go_at_call 36; refine Calls.quiet_of (KO.out _)))
            go_wp2
            go_roundw
            case rel => exact ⟨j + 1, b, by omega, by go_num, rfl, by omega, by omega, Lib.hid (HB.out.skip HC.out CN.out), below_trans BA.out (below_drewN _ _)⟩
            case measure => simp [intOf]; omega
        · have CN := Lib.hid (show candB F G ps s c = false from by rw [CB.out, l]; rfl)
          rw [l] at CB KO BA d3
          go_wp2_with fail
          go_big_quiet ((go_at_call 36; refine Calls.quiet_of (KO.out _)))
          go_wp2
          go_roundw
          case rel => exact ⟨j + 1, b, by omega, by go_num, rfl, by omega, by omega, Lib.hid (HB.out.skip HC.out CN.out), below_trans BA.out (below_drewN _ _)⟩
          case measure => simp [intOf]; omega
      · have CN := Lib.hid (show candB F G ps s c = false from by rw [CB.out, u]; rfl)
        rw [u] at CB KO BA d2
        go_wp2_with fail
        go_big_quiet ((go_at_call 36; refine Calls.quiet_of (KO.out _)))
        go_wp2
        go_roundw
        case rel => exact ⟨j + 1, b, by omega, by go_num, rfl, by omega, by omega, Lib.hid (HB.out.skip HC.out CN.out), below_trans BA.out (below_drewN _ _)⟩
        case measure => simp [intOf]; omega
    · obtain rfl : j = cs.length := by omega
      rcases Int.lt_or_le b 0 with bn | bn
      · obtain rfl : b = -1 := by omega
        have NC := Lib.hid (show ∀ c ∈ cs, candB F G ps s c = false from by
          rcases HB.out with ⟨_, h1⟩ | ⟨k, d, h0, _⟩
          · intro c hc
            obtain ⟨k, hk, rfl⟩ := List.getElem_of_mem hc
            exact h1 k _ hk (List.getElem?_eq_getElem hk)
          · omega)
        clear hi HB
        go_wp2_with fail
        clear c0 c1 c2 c3 c4 cf
        go_loopw [15] (fun s15 wr' => ∃ p : Nat, p ≤ ps.length ∧ s15 = .int .i64 p ∧ Hid (∀ q : Nat, q < p → freeB F G cs q = false) ∧ Below w.heap.size w wr') (fun s15 _ => ps.length - (intOf s15).toNat)
        case atStart => exact ⟨0, Nat.zero_le _, rfl, Lib.hid (fun q hq => by omega), bb⟩
        case round =>
          clear bb
          obtain ⟨p, hp, rfl, HQ, bb⟩ := hrel
          have hi := HH.out.keep bb
          obtain ⟨c0, c1, c2, c3, c4, cf⟩ := hi.sp.five
          by_cases plt : p < ps.length
          · have hFr := free_any a F _ G (p : Int) _ cs pb ps _ hi
            cases fb : freeB F G cs (p : Int)
            · rw [fb] at hFr
              have HFr := Lib.hid hFr
              have HQ2 := Lib.hid (show ∀ q : Nat, q < p + 1 → freeB F G cs q = false from fun q hq => by
                by_cases e : q = p
                · subst e; exact fb
                · exact HQ.out q (by omega))
              clear hFr hi fb
              unfold spP at HFr
              go_wp2_with fail
              refine HFr.out.mono ?_
              rintro e w1 ⟨rfl, b3⟩
              go_wp2
              go_roundw
              case rel => exact ⟨p + 1, by omega, by go_num, HQ2, below_trans bb b3⟩
              case measure => simp [intOf]; omega
            · rw [fb] at hFr
              have HFr := Lib.hid hFr
              have FB := Lib.hid fb
              clear hFr hi fb
              unfold spP at HFr
              have pg0 : (0 : Int) ≤ (p : Int) * G := Int.mul_nonneg (by omega) (by omega)
              have pg1 : (p : Int) * G ≤ 64 * 256 := Int.mul_le_mul (by omega) (by omega) (by omega) (by omega)
              go_wp2_with fail
              refine HFr.out.mono ?_
              rintro e w1 ⟨rfl, b3⟩
              clear c0 c1 c2 c3 c4 cf
              have b4 := below_trans bb b3
              have HI := Lib.hid (HH.out.keep b4)
              clear bb b3
              obtain ⟨c0, c1, c2, c3, c4, cf⟩ := HI.out.sp.five
              go_wp2_with fail
              go_big_quiet (fail)
              go_wp2_with fail
              have HU := Lib.hid (HI.out.drewN nq)
              have FU := Lib.hid ((Frm.of_below (S := Rf a pb (.slice ao cs.length cap)) b4).drewN nq)
              clear c0 c1 c2 c3 c4 cf HI b4 HFr HR
              generalize w1.drewN nq = U at HU FU ⊢
              have KK : ((G / s).toNat : Int) = G / s := Int.toNat_of_nonneg (Int.ediv_nonneg (by omega) (by omega))
              have K64 : (G / s).toNat ≤ 64 := by
                have : G / s ≤ G / 4 := by
                  refine Int.le_ediv_of_mul_le (by omega) ?_
                  have h1 := Int.mul_le_mul_of_nonneg_left (show 4 ≤ s by omega) (show 0 ≤ G / s from Int.ediv_nonneg (by omega) (by omega))
                  have h2 := Int.ediv_mul_le G (show s ≠ 0 by omega)
                  omega
                omega
              obtain ⟨i0, hi0, hz, hsz, hb⟩ := info_parts info_cell
              have HI0 := Lib.hid (And.intro hi0 (And.intro hz (And.intro hsz hb)))
              clear hi0 hz hsz hb
              obtain ⟨K, hK⟩ : ∃ K, (G / s).toNat = K := ⟨_, rfl⟩
              have KQ := Lib.hid (show ∀ k : Nat, ((k : Int) + 1) * s ≤ G ↔ k < K from fun k => by
                rw [← Int.le_ediv_iff_mul_le (by omega), ← KK, hK]
                omega)
              have EK := Lib.hid hK
              rw [hK] at K64
              clear KK hK
              go_loopw [17] (fun s17 wr' => ∃ (k : Nat) (v' : Value), k ≤ K ∧ s17 = .int .i64 k ∧ Hid (IsRf wr' a F ps.length G v' (cs ++ newC (F + p * G) s k) pb ps ∧ Frm (Rf a pb (.slice ao cs.length cap)) w wr' ∧ (v'.ownBlock = (Value.slice ao cs.length cap).ownBlock ∨ ∀ k, v'.ownBlock = some k → w.heap.size ≤ k))) (fun s17 _ => K - (intOf s17).toNat)
              case atStart => exact ⟨0, _, Nat.zero_le _, rfl, Lib.hid ⟨by simpa [newC] using HU.out, FU.out, Or.inl rfl⟩⟩
              case round =>
                clear HU FU
                obtain ⟨k, v', hk, rfl, HV⟩ := hrel
                obtain ⟨c0, c1, c2, c3, c4, cf⟩ := HV.out.1.sp.five
                have ks0 : (0 : Int) ≤ (k : Int) * s := Int.mul_nonneg (by omega) (by omega)
                have ks1 : (k : Int) * s ≤ 64 * 128 := Int.mul_le_mul (by omega) (by omega) (by omega) (by omega)
                have km0 : (0 : Int) ≤ ((k : Int) + 1) * s := Int.mul_nonneg (by omega) (by omega)
                have km1 : ((k : Int) + 1) * s ≤ 65 * 128 := Int.mul_le_mul (by omega) (by omega) (by omega) (by omega)
                have kq := KQ.out k
                obtain ⟨ao2, cap2, hv', _⟩ := HV.out.1.lies
                subst hv'
                have nl : (cs ++ newC (F + p * G) s k).length = cs.length + k := by simp [newC]
                rw [nl] at HV c3
                by_cases klt : k < K
                · have kle : ((k : Int) + 1) * s ≤ G := kq.2 klt
                  clear kq
                  obtain ⟨kb, hkb⟩ : ∃ kb, decide (k = 0) = kb := ⟨_, rfl⟩
                  have kb1 : decide ((k : Int) = 0) = kb := by rw [← hkb]; congr 1; simp
                  have kb2 : ((k : Int) == 0) = kb := kb1
                  have ED := Lib.hid (show newC (F + p * G) s (k + 1) = newC (F + p * G) s k ++ [⟨F + p * G + k * s, s, kb, false⟩] from by rw [newC_succ, hkb])
                  clear hkb
                  have HW := Lib.hid (HV.out.1.allocd (.cells #[.int .i64 (F + p * G + k * s), .int .i64 s, .bool kb, .bool false] 58))
                  have FW := Lib.hid (HV.out.2.1.alloc (.cells #[.int .i64 (F + p * G + k * s), .int .i64 s, .bool kb, .bool false] 58))
                  have LW := Lib.hid (show cs.length + k + 1 ≤ maxLen from by unfold maxLen; omega)
                  have OW := Lib.hid HV.out.2.2
                  have RW := HW.out.row
                  rw [nl] at RW
                  have RW := Lib.hid RW
                  have SZ : w.heap.size ≤ wr.heap.size := HV.out.2.1.size
                  clear HV
                  go_wp2_with (first
                    | (at_builtin; refine wpList_append_lies _ rfl _ _ 32 rfl 0 58 i0 _ 4 24 Try.underlying32 HI0.out.1 HI0.out.2.1 HI0.out.2.2.1 HI0.out.2.2.2 rfl (by decide) _ _ _ rfl RW.out ⟨wr.heap.size, 0, none⟩ 1 1 (Rc.vs ⟨F + p * G + k * s, s, kb, false⟩) rfl rfl (cell_news wr ⟨F + p * G + k * s, s, kb, false⟩ _) (vs_one _) (by omega) LW.out (by omega) (Nat.zero_le _) (wr.heap.size + 1) (by simp) ?_)
                    | fail)
                  intro g' cap' w1 hown1 hgrow1 hat1 hlt1
                  obtain ⟨x3, xf⟩ := HW.out.grown hgrow1
                  have RR := Lib.hid (HW.out.app hgrow1 (by rw [nl]; exact hown1) (show Sane ⟨F + p * G + k * s, s, kb, false⟩ from ⟨by show 0 ≤ F + (p : Int) * G + (k : Int) * s; omega, by show F + (p : Int) * G + (k : Int) * s ≤ 2097152; omega, by show 1 ≤ s; omega, by show s ≤ 2097152; omega⟩) (by rw [nl]; omega))
                  have RF := Lib.hid ((FW.out.trans (grown_frm (a := a) (pb := pb) hgrow1) (fun i hiw hS => by
                    rcases hS with e | e | e
                    · exact Or.inl e
                    · exact Or.inr (Or.inl e)
                    · rcases OW.out with o | o
                      · exact Or.inr (Or.inr (o.symm.trans e))
                      · have := o i e
                        omega)).setCell (p := ⟨a, 3, none⟩) (fun _ => Or.inl rfl) (.slice (some ⟨g', 0, none⟩) (cs.length + k + 1) cap'))
                  have RO := Lib.hid (show (Value.slice (some ⟨g', 0, none⟩) (cs.length + k + 1) cap').ownBlock = (Value.slice ao cs.length cap).ownBlock ∨ ∀ j, (Value.slice (some ⟨g', 0, none⟩) (cs.length + k + 1) cap').ownBlock = some j → w.heap.size ≤ j from by
                    have gj : ∀ j, (Value.slice (some ⟨g', 0, none⟩) (cs.length + k + 1) cap').ownBlock = some j → g' = j := fun j hj => by simpa [Value.ownBlock] using hj
                    rcases hat1 with e | e
                    · rcases OW.out with o | o
                      · exact Or.inl (e.symm.trans o)
                      · refine Or.inr fun j hj => ?_
                        rw [← gj j hj]
                        exact o g' e
                    · refine Or.inr fun j hj => ?_
                      have := gj j hj
                      omega)
                  have E2 := Lib.hid (show (cs ++ newC (F + p * G) s k) ++ [⟨F + p * G + k * s, s, kb, false⟩] = cs ++ newC (F + p * G) s (k + 1) from by rw [ED.out, List.append_assoc])
                  rw [E2.out] at RR
                  clear hown1 hgrow1 hat1 hlt1 HW FW ED
                  go_wp2
                  go_roundw
                  case rel => exact ⟨k + 1, _, by omega, by go_num, Lib.hid ⟨RR.out, RF.out, RO.out⟩⟩
                  case measure => simp [intOf]; omega
                · obtain rfl : k = K := by omega
                  have kle : ¬ ((k : Int) + 1) * s ≤ G := fun e => klt (kq.1 e)
                  clear kq
                  go_wp2
                  go_ret2
                  exact ⟨_, _, _, rfl, Or.inr ⟨NC.out, Or.inl ⟨p, plt, FB.out, HQ.out, rfl, by rw [EK.out]⟩⟩, HV.out.1, HV.out.2.1, HV.out.2.2⟩
          · obtain rfl : p = ps.length := by omega
            have HI := Lib.hid hi
            clear hi
            go_wp2
            go_ret2
            exact ⟨_, cs, _, rfl, Or.inr ⟨NC.out, Or.inr ⟨HQ.out, rfl, rfl⟩⟩, HI.out, Frm.of_below bb, Or.inl rfl⟩
      · obtain ⟨k, c, rfl, hc, hcb, hmin⟩ : ∃ (k : Nat) (c : Rc), b = k ∧ cs[k]? = some c ∧ candB F G ps s c = true ∧ ∀ d ∈ cs, candB F G ps s d = true → c.pos ≤ d.pos := by
          rcases HB.out with ⟨h0, _⟩ | ⟨k, c, h0, h1, h2, h3⟩
          · omega
          · refine ⟨k, c, h0, h1, h2, fun d hd hdc => ?_⟩
            obtain ⟨i, hi, rfl⟩ := List.getElem_of_mem hd
            exact h3 i _ hi (List.getElem?_eq_getElem hi) hdc
        obtain ⟨ao', cap', e, hl⟩ := hi.lies
        cases e
        obtain ⟨g, rfl, glt, d0, d1, d2, d3, df⟩ := hl k c hc
        have kl : k < cs.length := by omega
        have TK := Lib.hid (show TakeS F G ps.length ps cs s (.tuple #[.int .i64 c.pos, .bool true]) (cs.set k { c with used := true }) from Or.inl ⟨k, c, hc, hcb, hmin, rfl, rfl⟩)
        have RR := Lib.hid (hi.setUsed hc true)
        have RF := Lib.hid ((Frm.of_below (S := Rf a pb (.slice (some ⟨g, 0, none⟩) cs.length cap)) bb).setCell (p := ⟨g, k * 4 + 2, none⟩) (fun _ => Or.inr (Or.inr rfl)) (.bool true))
        clear hi hl hc hcb hmin HB
        go_wp2
        go_ret2
        exact ⟨_, _, _, rfl, TK.out, RR.out, RF.out, Or.inl rfl⟩
end Go.Proofs.Ytinoeofimajpdaa
