/- The walk of the statement ArenaPlays. -/
import Derived.Test.YtnnehjbjpjnilaaArenaP
namespace Go.Proofs.Ytnnehjbjpjnilaa
open Go.RowKit

set_option maxHeartbeats 4000000 in
set_option maxRecDepth 100000 in
theorem arenaPlays_walk (words : Int) (A0 : Option Addr) (N c0 : Nat) (w : World) (hr0 : RdAct w A0 N) :
    Calls Try.prog 3 #[.int .i64 words, .slice A0 N c0] w fun e w' => e = .returned (.bool true) ∧ Below w.heap.size w w' := by
  have HR0 := Lib.hid hr0
  clear hr0
  obtain ⟨S, hS⟩ : ∃ S : Nat, S = (max words 0).toNat := ⟨_, rfl⟩
  have HS := Lib.hid hS
  clear hS
  go_enter Try.func3, Try.ntmps3
  go_upto_if 24 with (fail)
  go_cut [5] (fun s wc => s = .int .i64 S ∧ w = wc)
  case first =>
    by_cases h : words < 0
    · go_wp2
      go_meet
      case rel => exact ⟨by rw [HS.out, show (max words 0).toNat = 0 from by omega]; rfl, rfl⟩
    · go_wp2
      go_meet
      case rel => exact ⟨by rw [HS.out, show ((max words 0).toNat : Int) = words from by omega], rfl⟩
  case rest =>
    obtain ⟨rfl, rfl⟩ := hcut
    by_cases hbig : 500 < S
    · go_wp2_with fail
      refine (awake_any _).mono ?_
      rintro e w1 ⟨rfl, b1⟩
      go_wp2
      go_ret
      exact ⟨rfl, b1⟩
    · have hbd : decide (500 < (S : Int)) = false := by rw [decide_eq_false_iff_not]; omega
      have hmk := run_make_u64 (S : Int) (by omega) (by omega)
      rw [Int.toNat_natCast] at hmk
      go_wp2_with fail
      refine (new_any _ _).mono ?_
      rintro e w1 ⟨rfl, i1, b1⟩
      have hcl : clampN words = S := by rw [HS.out]; unfold clampN; have := HS.out; omega
      rw [hcl] at i1
      clear hcl
      have R0 : PlayR w (w1.alloc (.cells (u64s (List.replicate S 0)) 27)) w1.heap.size S 0 0 :=
        ⟨_, i1.alloc _, Blk.new _ _ _, by simp, by omega, by omega, i1.ltA, b1.alloc b1.size _⟩
      clear i1 b1
      go_upto_block 0 with (fail)
      clear hmk
      generalize w1.alloc (.cells (u64s (List.replicate S 0)) 27) = w2 at *
      generalize w1.heap.size = g at *
      go_cut [8] (fun c wc => ∃ i cnt, i ≤ 60 ∧ c = .int .i64 cnt ∧ PlayR w wc g S i cnt)
      case first =>
        go_wp2_with fail
        go_loopw [8, 9] (fun c i wr => ∃ (k : Nat) (cnt : Int), k ≤ 60 ∧ k ≤ N ∧ c = .int .i64 cnt ∧ i = .int .i64 k ∧ PlayR w wr g S k cnt) (fun _ i _ => 60 - (intOf i).toNat)
        case atStart => exact ⟨0, 0, by omega, by omega, rfl, rfl, R0⟩
        case round =>
          obtain ⟨k, cnt, hk, hkN, rfl, rfl, R⟩ := hrel
          by_cases hlt : k < N
          · by_cases h60 : k < 60
            · obtain ⟨ws, hi, hg, hl, hn0, hn1, hgg, hb⟩ := R
              obtain ⟨ad, x0, x1, x2, x3, x4, hA, d0, d1, d2, d3, d4, p1, p2, p3, p4, p5, p6⟩ := HR0.out.at_ hb hlt
              obtain rfl := hA
              have HL := Lib.hid hl
              clear hl
              go_upto_block 2 with (fail)
              have hX := Blk.new wr #[.int .i64 x0, .int .i64 x1, .int .i64 x2, .int .i64 x3, .int .u64 x4] 29
              have hi3 := hi.alloc (.cells #[.int .i64 x0, .int .i64 x1, .int .i64 x2, .int .i64 x3, .int .u64 x4] 29)
              have hg3 := hg.alloc (.cells #[.int .i64 x0, .int .i64 x1, .int .i64 x2, .int .i64 x3, .int .u64 x4] 29)
              have hb3 := hb.alloc hb.size (.cells #[.int .i64 x0, .int .i64 x1, .int .i64 x2, .int .i64 x3, .int .u64 x4] 29)
              have hXg : wr.heap.size ≠ g := by have := hg.lt; omega
              have hXa : w.heap.size + 1 < wr.heap.size := hi.ltA
              clear d0 d1 d2 d3 d4 hi hg hb
              generalize wr.alloc (.cells #[.int .i64 x0, .int .i64 x1, .int .i64 x2, .int .i64 x3, .int .u64 x4] 29) = w3 at *
              generalize wr.heap.size = X at *
              go_cut [8, 11, 12] (fun c e want wc => PlayE w wc g S k e want c)
              case first =>
                obtain ⟨c0, c1, c2, c3, c4⟩ := hX.five
                by_cases q0 : x0 = 0
                · as_aux_lemma =>
                  subst q0
                  cases hh : hasB S x1 1
                  · go_wp2_with fail
                    refine (within_any S x1 1 (by omega) _).mono ?_
                    rintro e w4 ⟨rfl, rfl⟩
                    go_wp2_with fail
                    refine (load_no _ _ _ _ _ _ hi3 (by have := HL.out; omega) (by omega) (by rw [HL.out]; exact hh)).mono ?_
                    rintro e w4 ⟨rfl, rfl⟩
                    go_wp2
                    go_meet
                    case rel => exact ⟨2, cnt, rfl, rfl, rfl, ws, hi3, hg3, HL.out, by omega, by omega, hgg, hb3⟩
                  · obtain ⟨r0, r1, r2⟩ := (hasB_iff ..).1 hh
                    obtain ⟨p, rfl⟩ := Int.eq_ofNat_of_zero_le r1
                    have hv := List.getElem?_eq_getElem (l := ws) (i := p) (by have := HL.out; omega)
                    generalize ws[p]'_ = v at hv
                    have HV := Lib.hid hv
                    clear hv
                    go_wp2_with fail
                    refine (within_any S p 1 (by omega) _).mono ?_
                    rintro e w4 ⟨rfl, rfl⟩
                    go_wp2_with fail
                    refine (load_at _ _ _ _ _ hi3 (by have := HL.out; omega) p v (by omega) HV.out).mono ?_
                    rintro e w4 ⟨rfl, t4⟩
                    have hX4 := hX.frm t4.frm (by omega)
                    have hg4 := hg3.frm t4.frm (by omega)
                    have hgc : w4.cell? ⟨g, p, none⟩ = some (.int .u64 v) := by rw [hg4.cell p]; simp [u64s, HV.out]
                    have R4 : PlayE w w4 g S k (.int .i64 0) (.int .i64 0) (.int .i64 (cnt + 1)) := ⟨0, _, rfl, rfl, rfl, ws, t4.is.to rfl (addC_in _ _ (by omega) (by omega)), hg4, HL.out, by omega, by omega, hgg, below_turns hb3 t4 (by omega) (by omega)⟩
                    clear c0 c1 c2 c3 c4
                    obtain ⟨c0, c1, c2, c3, c4⟩ := hX4.five
                    clear t4 hX4 hg4 hi3 hg3 hb3 hX
                    go_wp2
                    go_meet
                    case rel => exact R4
                · have e0 : (x0 == 0) = false := beq_eq_false_iff_ne.2 q0
                  by_cases q1 : x0 = 1
                  · as_aux_lemma =>
                    subst q1
                    clear e0
                    cases hh : hasB S x1 1
                    · go_wp2_with fail
                      refine (within_any S x1 1 (by omega) _).mono ?_
                      rintro e w4 ⟨rfl, rfl⟩
                      go_wp2_with fail
                      refine (store_no _ _ _ _ _ _ _ hi3 (by have := HL.out; omega) (by omega) (by rw [HL.out]; exact hh)).mono ?_
                      rintro e w4 ⟨rfl, rfl⟩
                      go_wp2
                      go_meet
                      case rel => exact ⟨2, cnt, rfl, rfl, rfl, ws, hi3, hg3, HL.out, by omega, by omega, hgg, hb3⟩
                    · obtain ⟨r0, r1, r2⟩ := (hasB_iff ..).1 hh
                      obtain ⟨p, rfl⟩ := Int.eq_ofNat_of_zero_le r1
                      have hv := List.getElem?_eq_getElem (l := ws) (i := p) (by have := HL.out; omega)
                      generalize ws[p]'_ = v at hv
                      have HV := Lib.hid hv
                      clear hv
                      go_wp2_with fail
                      refine (within_any S p 1 (by omega) _).mono ?_
                      rintro e w4 ⟨rfl, rfl⟩
                      go_wp2_with fail
                      refine (store_at _ _ _ _ _ hi3 (by have := HL.out; omega) p x4 (by omega) (by have := HL.out; omega)).mono ?_
                      rintro e w4 ⟨rfl, t4⟩
                      have hX4 := hX.frm t4.frm (by omega)
                      have hg4 := hg3.frm t4.frm (by omega)
                      have hgc : w4.cell? ⟨g, p, none⟩ = some (.int .u64 v) := by rw [hg4.cell p]; simp [u64s, HV.out]
                      have hgf : w4.frozen? ⟨g, p, none⟩ = false := hg4.frozen p
                      have R4 : PlayE w (w4.setCell ⟨g, p, none⟩ (.int .u64 x4)) g S k (.int .i64 0) (.int .i64 0) (.int .i64 (cnt + 1)) := ⟨0, _, rfl, rfl, rfl, ws.set p x4,
                        (t4.is.to (by simp) (addC_in _ _ (by omega) (by omega))).far (p := ⟨g, p, none⟩) (show w.heap.size + 1 ≠ g from by omega) (show w.heap.size ≠ g from by omega) _,
                        by rw [← set_u64s]; exact hg4.set_ p _, by simpa using HL.out, by omega, by omega, hgg, (below_turns hb3 t4 (by omega) (by omega)).setCell (p := ⟨g, p, none⟩) (show w.heap.size ≤ g from by omega) _⟩
                      clear c0 c1 c2 c3 c4
                      obtain ⟨c0, c1, c2, c3, c4⟩ := hX4.five
                      have R4 := Lib.hid R4
                      clear t4 hX4 hg4 hi3 hg3 hb3 hX
                      go_wp2
                      go_meet
                      case rel => exact R4.out
                  · have e1 : (x0 == 1) = false := beq_eq_false_iff_ne.2 q1
                    by_cases q2 : x0 = 2
                    · as_aux_lemma =>
                      subst q2
                      clear e0 e1
                      cases h1 : hasB S x1 x3
                      · go_wp2_with fail
                        refine (copy_no _ _ _ _ _ _ _ _ hi3 (by have := HL.out; omega) (by omega) (by omega) (by rw [HL.out]; exact .inl h1)).mono ?_
                        rintro e w4 ⟨rfl, rfl⟩
                        go_wp2_with fail
                        refine (within_any S x1 x3 (by omega) _).mono ?_
                        rintro e w4 ⟨rfl, rfl⟩
                        go_wp2
                        go_meet
                        case rel => exact ⟨2, cnt, rfl, rfl, rfl, ws, hi3, hg3, HL.out, by omega, by omega, hgg, hb3⟩
                      · cases h2 : hasB S x2 x3
                        · go_wp2_with fail
                          refine (copy_no _ _ _ _ _ _ _ _ hi3 (by have := HL.out; omega) (by omega) (by omega) (by rw [HL.out]; exact .inr h2)).mono ?_
                          rintro e w4 ⟨rfl, rfl⟩
                          go_wp2_with fail
                          refine (within_any S x1 x3 (by omega) _).mono ?_
                          rintro e w4 ⟨rfl, rfl⟩
                          go_wp2_with fail
                          refine (within_any S x2 x3 (by omega) _).mono ?_
                          rintro e w4 ⟨rfl, rfl⟩
                          go_wp2
                          go_meet
                          case rel => exact ⟨2, cnt, rfl, rfl, rfl, ws, hi3, hg3, HL.out, by omega, by omega, hgg, hb3⟩
                        · obtain ⟨r0, r1, r2⟩ := (hasB_iff ..).1 h1
                          obtain ⟨_, r3, r4⟩ := (hasB_iff ..).1 h2
                          obtain ⟨p, rfl⟩ := Int.eq_ofNat_of_zero_le r1
                          obtain ⟨y, rfl⟩ := Int.eq_ofNat_of_zero_le r3
                          by_cases hx3 : x3 = 0
                          · subst hx3
                            go_wp2_with fail
                            refine (copy_at _ _ _ _ _ hi3 (by have := HL.out; omega) p y 0 (by omega) (by omega) (by omega) (by have := HL.out; omega) (by have := HL.out; omega)).mono ?_
                            rintro e w4 ⟨rfl, t4⟩
                            have hX4 := hX.frm t4.frm (by omega)
                            have hg4 := hg3.frm t4.frm (by omega)
                            have i4 := t4.is.to (ws' := ws) (c' := cnt) (by simp [splice]) ((addC_in _ _ (by omega) (by omega)).trans (by omega))
                            have b4 := below_turns hb3 t4 (by omega) (by omega)
                            clear c0 c1 c2 c3 c4
                            obtain ⟨c0, c1, c2, c3, c4⟩ := hX4.five
                            clear t4 hi3 hg3 hb3 hX
                            go_wp2_with fail
                            refine (within_any S p 0 (by omega) _).mono ?_
                            rintro e w5 ⟨rfl, rfl⟩
                            go_wp2_with fail
                            refine (within_any S y 0 (by omega) _).mono ?_
                            rintro e w5 ⟨rfl, rfl⟩
                            have R5 : PlayE w (w4.alloc (.cells #[] 27)) g S k (.int .i64 0) (.int .i64 0) (.int .i64 cnt) := ⟨0, cnt, rfl, rfl, rfl, ws, i4.alloc _, hg4.alloc _, HL.out, by omega, by omega, hgg, b4.alloc b4.size _⟩
                            have hap := run_append_zero w4.heap.size
                            clear c0 c1 c2 c3 c4
                            obtain ⟨c0, c1, c2, c3, c4⟩ := (hX4.alloc (.cells #[] 27)).five
                            have R5 := Lib.hid R5
                            obtain ⟨d0, d1, d2, d3, d4⟩ := hX4.five
                            clear i4 hg4 b4 hX4
                            by_cases hSp : S = p
                            · subst hSp
                              go_wp2_with fail
                              go_loopw [17] (fun i wr => i = .int .i64 0 ∧ wr = w4.alloc (.cells #[] 27)) (fun _ _ => 0)
                              case atStart => exact ⟨rfl, rfl⟩
                              case round =>
                                obtain ⟨rfl, rfl⟩ := hrel
                                go_wp2
                                go_meet
                                case rel => exact R5.out
                            · go_wp2_with fail
                              go_loopw [17] (fun i wr => i = .int .i64 0 ∧ wr = w4.alloc (.cells #[] 27)) (fun _ _ => 0)
                              case atStart => exact ⟨rfl, rfl⟩
                              case round =>
                                obtain ⟨rfl, rfl⟩ := hrel
                                go_wp2
                                go_meet
                                case rel => exact R5.out
                          · obtain ⟨n, rfl⟩ := Int.eq_ofNat_of_zero_le r0
                            have hn0 : 0 < n := by omega
                            have hSp : ¬ S = p := by omega
                            clear hx3
                            go_wp2_with fail
                            refine (copy_at _ _ _ _ _ hi3 (by have := HL.out; omega) p y n (by omega) (by omega) (by omega) (by have := HL.out; omega) (by have := HL.out; omega)).mono ?_
                            rintro e w4 ⟨rfl, t4⟩
                            have hX4 := hX.frm t4.frm (by omega)
                            have hg4 := hg3.frm t4.frm (by omega)
                            have i4 := t4.is.to (ws' := splice ws y ((ws.drop p).take n)) (c' := cnt + 2 * n) (by simp) (addC_in _ _ (by omega) (by omega))
                            have b4 := below_turns hb3 t4 (by omega) (by omega)
                            clear c0 c1 c2 c3 c4
                            obtain ⟨c0, c1, c2, c3, c4⟩ := hX4.five
                            clear t4 hi3 hg3 hb3 hX
                            go_wp2_with fail
                            refine (within_any S p n (by omega) _).mono ?_
                            rintro e w5 ⟨rfl, rfl⟩
                            go_wp2_with fail
                            refine (within_any S y n (by omega) _).mono ?_
                            rintro e w5 ⟨rfl, rfl⟩
                            clear c0 c1 c2 c3 c4
                            obtain ⟨c0, c1, c2, c3, c4⟩ := (hX4.alloc (.cells #[] 27)).five
                            obtain ⟨cs, hcs⟩ : ∃ cs, cs = (ws.drop p).take n := ⟨_, rfl⟩
                            have HP := Lib.hid (part_facts w4 g p n ws hg4 (by have := HL.out; omega) cs hcs)
                            rw [← hcs] at i4
                            clear hcs
                            obtain ⟨news, hnews⟩ : ∃ news, news = cs.map (Value.int .u64) := ⟨_, rfl⟩
                            rw [← hnews] at HP
                            have HN := Lib.hid hnews
                            clear hnews
                            obtain ⟨ii, hii, hz0, hs0, hb0⟩ := info_parts info_u64
                            have HI := Lib.hid (And.intro hii (And.intro hz0 (And.intro hs0 hb0)))
                            clear hii hz0 hs0 hb0
                            have hmx : 0 + (p + n - p) ≤ maxLen := by unfold maxLen; omega
                            have hby : (0 + (p + n - p)) * 8 ≤ 140737488355328 := by omega
                            have HM := Lib.hid (And.intro hmx hby)
                            clear hmx hby
                            go_wp2_with (at_builtin; refine wpList_append_own_at _ rfl (.tmp 157) (.tmp 166) 26 rfl w4.heap.size 27 ii _ 1 8 Try.underlying26 HI.out.1 HI.out.2.1 HI.out.2.2.1 HI.out.2.2.2 rfl Nat.one_pos _ 0 [] rfl HP.out.1 ⟨g, p, none⟩ (p + n - p) (S - p) news rfl HP.out.2.1 HP.out.2.2.1 HP.out.2.2.2.1 HM.out.1 HM.out.2 HP.out.2.2.2.2 ?_)
                            intro v5 w5 ho5 hgr5 _ _
                            obtain ⟨h, cap, cur, rfl, hcap, hh0, hh5, hcur, b5⟩ := part_after hn0 ho5 hgr5
                            clear ho5 hgr5
                            have hcsn : cs.length = n := by have := HP.out.2.1; rw [HN.out, List.length_map] at this; omega
                            have hcells : ∀ q, q < n → ∃ v, cs[q]? = some v ∧ cur[q]? = some (.int .u64 v) := by
                              intro q hq
                              have hx := List.getElem?_eq_getElem (l := cs) (i := q) (by omega)
                              exact ⟨_, hx, hcur q _ (by rw [HN.out, List.getElem?_map, hx]; rfl)⟩
                            have R5 : ZeroR w w5 g X ws (splice ws y cs) (cnt + 2 * n) y cs 0 #[.int .i64 2, .int .i64 p, .int .i64 y, .int .i64 n, .int .u64 x4] :=
                              ⟨i4.keep b5, by rw [List.take_zero, splice_nil]; exact hg4.keep b5, hX4.keep b5, below_trans b4 b5⟩
                            have hhg : h ≠ g := by have := hg4.lt; omega
                            have hhX : h ≠ X := by have := hX4.lt; omega
                            have HC := Lib.hid hcells
                            have HLC := Lib.hid hcsn
                            clear c0 c1 c2 c3 c4 i4 hg4 b4 hX4 HP HN HI HM hcur b5 hcsn hcells hh0
                            go_wp2_with fail
                            go_loopw [17] (fun i wr => ∃ q : Nat, q ≤ n ∧ i = .int .i64 q ∧ ZeroR w wr g X ws (splice ws y cs) (cnt + 2 * n) y cs q #[.int .i64 2, .int .i64 p, .int .i64 y, .int .i64 n, .int .u64 x4] ∧ Blk wr h cur 27) (fun i _ => n - (intOf i).toNat)
                            case atStart => exact ⟨0, Nat.zero_le _, rfl, R5, hh5⟩
                            case round =>
                              obtain ⟨q, hq, rfl, ⟨i5, g5, X5, b5⟩, h5⟩ := hrel
                              obtain ⟨c0, c1, c2, c3, c4⟩ := X5.five
                              by_cases hqn : q < n
                              · obtain ⟨x, hx, hcx⟩ := HC.out q hqn
                                have hst := splice_step ws y cs q x (by have := HL.out; have := HLC.out; omega) hx
                                have hhc : wr.cell? ⟨h, q, none⟩ = some (.int .u64 x) := (h5.cell q).trans hcx
                                obtain ⟨v, hgc⟩ : ∃ v, wr.cell? ⟨g, y + q, none⟩ = some v := by
                                  rw [g5.cell]
                                  exact ⟨_, Array.getElem?_eq_getElem (by have := HL.out; have := HLC.out; simp [u64s]; rw [length_splice _ _ _ (by simp; omega)]; omega)⟩
                                have hgf : wr.frozen? ⟨g, y + q, none⟩ = false := g5.frozen _
                                have R6 : ZeroR w (wr.setCell ⟨g, y + q, none⟩ (.int .u64 x)) g X ws (splice ws y cs) (cnt + 2 * n) y cs (q + 1) #[.int .i64 2, .int .i64 p, .int .i64 y, .int .i64 n, .int .u64 x4] ∧ Blk (wr.setCell ⟨g, y + q, none⟩ (.int .u64 x)) h cur 27 :=
                                  ⟨⟨i5.far (p := ⟨g, y + q, none⟩) (show w.heap.size + 1 ≠ g from by omega) (show w.heap.size ≠ g from by omega) _, by rw [← hst, ← set_u64s]; exact g5.set_ _ _, X5.far (p := ⟨g, y + q, none⟩) hXg _, b5.setCell (p := ⟨g, y + q, none⟩) (show w.heap.size ≤ g from by omega) _⟩, h5.far (p := ⟨g, y + q, none⟩) hhg _⟩
                                have R6 := Lib.hid R6
                                have s1 : IntKind.i64.wrap ((y : Int) + q) = y + q := IntWalk.i64_in _ (by omega)
                                have s2 : ((y : Int) + q).toNat = y + q := by omega
                                have HQ := Lib.hid (And.intro s1 s2)
                                clear hst i5 g5 X5 b5 h5 hx hcx s1 s2
                                go_wp2_with fail
                                obtain ⟨s1, s2⟩ := HQ.out
                                go_region
                                clear s1 s2
                                go_wp2
                                go_roundw
                                case rel => exact ⟨q + 1, by omega, by go_num, R6.out.1.drew, R6.out.2.drew⟩
                                case measure => simp [intOf]; omega
                              · obtain rfl : q = n := by omega
                                have R6 : PlayE w wr g S k (.int .i64 0) (.int .i64 0) (.int .i64 (cnt + 2 * q)) := ⟨0, _, rfl, rfl, rfl, _, i5, by rw [List.take_of_length_le (by have := HLC.out; omega)] at g5; exact g5, by rw [length_splice _ _ _ (by have := HL.out; have := HLC.out; omega)]; exact HL.out, by omega, by omega, hgg, b5⟩
                                have R6 := Lib.hid R6
                                clear i5 g5 X5 b5 h5
                                go_wp2
                                go_meet
                                case rel => exact R6.out
                    · as_aux_lemma =>
                      have e2 : (x0 == 2) = false := beq_eq_false_iff_ne.2 q2
                      cases hh : hasB S x1 x3
                      · go_wp2_with fail
                        refine (zero_no _ _ _ _ _ _ _ hi3 (by have := HL.out; omega) (by omega) (by rw [HL.out]; exact hh)).mono ?_
                        rintro e w4 ⟨rfl, rfl⟩
                        go_wp2_with fail
                        refine (within_any S x1 x3 (by omega) _).mono ?_
                        rintro e w4 ⟨rfl, rfl⟩
                        go_wp2
                        go_meet
                        case rel => exact ⟨2, cnt, rfl, rfl, rfl, ws, hi3, hg3, HL.out, by omega, by omega, hgg, hb3⟩
                      · obtain ⟨r0, r1, r2⟩ := (hasB_iff ..).1 hh
                        obtain ⟨p, rfl⟩ := Int.eq_ofNat_of_zero_le r1
                        obtain ⟨n, rfl⟩ := Int.eq_ofNat_of_zero_le r0
                        go_wp2_with fail
                        refine (zero_at _ _ _ _ _ hi3 (by have := HL.out; omega) p n (by omega) (by omega) (by have := HL.out; omega)).mono ?_
                        rintro e w4 ⟨rfl, t4⟩
                        have hX4 := hX.frm t4.frm (by omega)
                        have hg4 := hg3.frm t4.frm (by omega)
                        have i4 := t4.is.to (ws' := splice ws p (List.replicate n 0)) (c' := cnt + n) (by simp) (addC_in _ _ (by omega) (by omega))
                        have R4 : ZeroR w w4 g X ws (splice ws p (List.replicate n 0)) (cnt + n) p (List.replicate n 0) 0 #[.int .i64 x0, .int .i64 p, .int .i64 x2, .int .i64 n, .int .u64 x4] :=
                          ⟨i4, by rw [List.take_zero, splice_nil]; exact hg4, hX4, below_turns hb3 t4 (by omega) (by omega)⟩
                        clear c0 c1 c2 c3 c4
                        obtain ⟨c0, c1, c2, c3, c4⟩ := hX4.five
                        clear t4 hX4 hg4 hi3 hg3 hb3 hX i4
                        go_wp2_with fail
                        refine (within_any S p n (by omega) _).mono ?_
                        rintro e w5 ⟨rfl, rfl⟩
                        clear c0 c1 c2 c3 c4
                        go_wp2_with fail
                        go_loopw [18] (fun i wr => ∃ q : Nat, q ≤ n ∧ i = .int .i64 q ∧ ZeroR w wr g X ws (splice ws p (List.replicate n 0)) (cnt + n) p (List.replicate n 0) q #[.int .i64 x0, .int .i64 p, .int .i64 x2, .int .i64 n, .int .u64 x4]) (fun i _ => n - (intOf i).toNat)
                        case atStart => exact ⟨0, Nat.zero_le _, rfl, R4⟩
                        case round =>
                          obtain ⟨q, hq, rfl, i5, g5, X5, b5⟩ := hrel
                          obtain ⟨c0, c1, c2, c3, c4⟩ := X5.five
                          by_cases hqn : q < n
                          · have hz : (List.replicate n (0 : Int))[q]? = some 0 := by rw [List.getElem?_replicate, if_pos hqn]
                            have hst := splice_step ws p (List.replicate n 0) q 0 (by have := HL.out; simp; omega) hz
                            obtain ⟨v, hgc⟩ : ∃ v, wr.cell? ⟨g, p + q, none⟩ = some v := by
                              rw [g5.cell]
                              exact ⟨_, Array.getElem?_eq_getElem (by have := HL.out; simp [u64s]; rw [length_splice _ _ _ (by simp; omega)]; omega)⟩
                            have hgf : wr.frozen? ⟨g, p + q, none⟩ = false := g5.frozen _
                            have R6 : ZeroR w (wr.setCell ⟨g, p + q, none⟩ (.int .u64 0)) g X ws (splice ws p (List.replicate n 0)) (cnt + n) p (List.replicate n 0) (q + 1) #[.int .i64 x0, .int .i64 p, .int .i64 x2, .int .i64 n, .int .u64 x4] :=
                              ⟨i5.far (p := ⟨g, p + q, none⟩) (show w.heap.size + 1 ≠ g from by omega) (show w.heap.size ≠ g from by omega) _, by rw [← hst, ← set_u64s]; exact g5.set_ _ _, X5.far (p := ⟨g, p + q, none⟩) hXg _, b5.setCell (p := ⟨g, p + q, none⟩) (show w.heap.size ≤ g from by omega) _⟩
                            have R6 := Lib.hid R6
                            clear hst hz i5 g5 X5 b5
                            go_wp2
                            go_roundw
                            case rel => exact ⟨q + 1, by omega, by go_num, R6.out⟩
                            case measure => simp [intOf]; omega
                          · obtain rfl : q = n := by omega
                            have R6 : PlayE w wr g S k (.int .i64 0) (.int .i64 0) (.int .i64 (cnt + q)) := ⟨0, _, rfl, rfl, rfl, _, i5, by rw [List.take_of_length_le (by simp)] at g5; exact g5, by rw [length_splice _ _ _ (by have := HL.out; simp; omega)]; exact HL.out, by omega, by omega, hgg, b5⟩
                            have R6 := Lib.hid R6
                            clear i5 g5 X5 b5
                            go_wp2
                            go_meet
                            case rel => exact R6.out
              case rest =>
                as_aux_lemma =>
                obtain ⟨E, c, rfl, rfl, rfl, ws, hi, hg, hl, n0, n1, hgg, hb⟩ := hcut
                have HL2 := Lib.hid hl
                clear hl
                go_wp2_with fail
                refine (count_any _ _ _ _ _ hi).mono ?_
                rintro e w4 ⟨rfl, rfl⟩
                go_wp2_with fail
                refine (len_any _ _ _ _ _ hi).mono ?_
                rintro e w4 ⟨rfl, rfl⟩
                rw [HL2.out]
                have R4 : PlayR w wc g S (k + 1) c := ⟨ws, hi, hg, HL2.out, n0, n1, hgg, hb⟩
                clear HL2 hi hg hb
                go_wp2
                go_roundw
                case rel => exact ⟨k + 1, c, by omega, by omega, rfl, by go_num, R4⟩
                case measure => simp [intOf]; omega
            · go_wp2
              go_meet
              case rel => exact ⟨k, cnt, hk, rfl, R⟩
          · go_wp2
            go_meet
            case rel => exact ⟨k, cnt, hk, rfl, R⟩
      case rest =>
        as_aux_lemma =>
        obtain ⟨i, cnt, hi60, rfl, ws, hi, hg, hl, n0, n1, hgg, hb⟩ := hcut
        have HL2 := Lib.hid hl
        clear hl R0
        have R1 : EndR w wc g ws := ⟨cnt, hi, hg, hb⟩
        clear hi hg hb
        go_wp2_with fail
        go_loopw [19] (fun i wr => ∃ q : Nat, q ≤ S ∧ i = .int .i64 q ∧ EndR w wr g ws) (fun i _ => S - (intOf i).toNat)
        case atStart => exact ⟨0, Nat.zero_le _, rfl, R1⟩
        case round =>
          obtain ⟨q, hq, rfl, cq, hi, hg, hb⟩ := hrel
          by_cases hlt : q < S
          · have hv := List.getElem?_eq_getElem (l := ws) (i := q) (by have := HL2.out; omega)
            generalize ws[q]'_ = v at hv
            have HV := Lib.hid hv
            clear hv
            go_wp2_with fail
            refine (load_at _ _ _ _ _ hi (by have := HL2.out; omega) q v (by omega) HV.out).mono ?_
            rintro e w4 ⟨rfl, t4⟩
            have hg4 := hg.frm t4.frm (by omega)
            have hgc : w4.cell? ⟨g, q, none⟩ = some (.int .u64 v) := by rw [hg4.cell q]; simp [u64s, HV.out]
            have R4 : EndR w w4 g ws := ⟨_, t4.is, hg4, below_turns hb t4 (by omega) (by omega)⟩
            clear t4 hg4 hi hg hb
            go_wp2
            go_roundw
            case rel => exact ⟨q + 1, by omega, by go_num, R4⟩
            case measure => simp [intOf]; omega
          · go_wp2_with fail
            refine (awake_any _).mono ?_
            rintro e w4 ⟨rfl, b4⟩
            go_wp2
            go_ret
            exact ⟨rfl, below_trans hb b4⟩
end Go.Proofs.Ytnnehjbjpjnilaa
