/- The walk of alike: a space is as the document says. -/
import Derived.Test.YtinoeofimajpdaaMatI
import Derived.Deep.RegionHeld3
namespace Go.Proofs.Ytinoeofimajpdaa
open Go.RowKit

/-- What alike knows of the first pages that are pending. -/
def frst (ps : List Bool) : Int × Bool := match ps.findIdx? id with
  | some i => ((i : Int), true)
  | none => (0, false)

theorem frst_snoc (ps : List Bool) (x : Bool) : frst (ps ++ [x]) = if (frst ps).2 then frst ps else if x then ((ps.length : Int), true) else (0, false) := by
  unfold frst
  rw [List.findIdx?_append]
  cases h : ps.findIdx? id with
  | some i => simp
  | none => cases x <;> simp

theorem pendV_frst (ps : List Bool) : pendV ps = .tuple #[.int .i64 (frst ps).1, .bool (frst ps).2] := by
  unfold pendV frst
  cases ps.findIdx? id <;> rfl

theorem frst_none (ps : List Bool) (h : (frst ps).2 = false) : (frst ps).1 = 0 := by
  unfold frst at *
  cases e : ps.findIdx? id with
  | some i => rw [e] at h; cases h
  | none => rfl

theorem sizeV_form (cs : List Rc) (n : Int) : ∃ x y, sizeV cs n = .tuple #[.int .i64 x, .bool y] := by
  unfold sizeV
  cases cs.find? (hitB n) with
  | some c => exact ⟨_, _, rfl⟩
  | none => exact ⟨_, _, rfl⟩

theorem IsRef.five {w : World} {a pb : Nat} {F G : Int} {v : Value} {pgs : List Pg} {ps : List Bool} (h : IsRef w a pb F G v pgs ps) :
    w.cell? ⟨a, 0, none⟩ = some (.int .i64 F) ∧ w.cell? ⟨a, 1, none⟩ = some (.int .i64 ps.length) ∧ w.cell? ⟨a, 2, none⟩ = some (.int .i64 G) ∧ w.cell? ⟨a, 4, none⟩ = some (.slice (some ⟨pb, 0, none⟩) ps.length ps.length) ∧ ∀ (i : Nat) (x : Bool), ps[i]? = some x → w.cell? ⟨pb, i, none⟩ = some (.bool x) := by
  obtain ⟨cs, h1, _⟩ := h
  obtain ⟨c0, c1, c2, _, c4, _⟩ := h1.sp.five
  exact ⟨c0, c1, c2, c4, fun i x hx => h1.pend.bools hx⟩

set_option maxHeartbeats 8000000 in
set_option maxRecDepth 100000 in
theorem alike_any (M : MatSpec) (a pb b : Nat) (S : Nat → Prop) (F G n : Int) (v : Value) (pgs : List Pg) (ps : List Bool) (w : World) (hr : IsRef w a pb F G v pgs ps) (hm : M.Is w b S F G pgs ps) (n0 : -9223372036854775808 ≤ n) (n1 : n ≤ 9223372036854775807) :
    Calls Try.prog 18 #[spP b, spP a, .int .i64 n] w fun e w' => e = .returned (.bool true) ∧ Below w.heap.size w w' := by
  obtain ⟨wf, hl, g0, g1, f0, f1, p1⟩ := M.wf hm
  have HR := Lib.hid hr
  have HM := Lib.hid hm
  obtain ⟨sx, sy, hsv⟩ := sizeV_form (cellsP F G pgs) n
  have SV := Lib.hid hsv
  have SF := Lib.hid (fun f t => starts_few (F := F) (f := f) (t := t) g1 wf (by omega))
  clear hr hm hsv wf
  unfold spP
  go_enter Try.func18, Try.ntmps18
  go_wp2_with fail
  refine (pCount_any a pb F G v pgs ps _ HR.out).mono ?_
  rintro e w1 ⟨rfl, b1⟩
  have m1 := Lib.hid (M.keep HM.out b1)
  go_wp2_with fail
  refine (M.free m1.out).mono ?_
  rintro e w2 ⟨rfl, b2⟩
  have b2 := below_trans b1 b2
  have m2 := Lib.hid (M.keep HM.out b2)
  clear m1 b1
  go_wp2_with fail
  refine (M.used m2.out).mono ?_
  rintro e w3 ⟨rfl, b3⟩
  have b3 := below_trans b2 b3
  have m3 := Lib.hid (M.keep HM.out b3)
  clear m2 b2
  go_wp2_with fail
  refine (M.size n m3.out n0 n1).mono ?_
  rintro e w4 ⟨rfl, b4⟩
  have b4 := below_trans b3 b4
  have r4 := Lib.hid (HR.out.keep b4)
  clear m3 b3
  rw [SV.out]
  go_wp2_with fail
  refine (pSize_any a pb F G n v pgs ps _ r4.out).mono ?_
  rintro e w5 ⟨rfl, rfl⟩
  rw [SV.out]
  go_wp2_with fail
  go_loopw [13, 14, 15] (fun s13 s14 s15 wr => ∃ (i : Nat) (f : Int) (d : Bool), i ≤ ps.length ∧ s15 = .int .i64 i ∧ s13 = .int .i64 f ∧ s14 = .bool d ∧ Hid (frst (ps.take i) = (f, d)) ∧ Below w.heap.size w wr) (fun _ _ s15 _ => ps.length - (intOf s15).toNat)
  case atStart => exact ⟨0, 0, false, Nat.zero_le _, rfl, rfl, rfl, Lib.hid (by simp [frst]), b4⟩
  case round =>
    clear r4 b4
    obtain ⟨i, f, d, hi, rfl, rfl, rfl, HF, bb⟩ := hrel
    have r5 := HR.out.keep bb
    obtain ⟨c0, c1, c2, c4, cp⟩ := r5.five
    by_cases ilt : i < ps.length
    · have hx : ps[i]? = some ps[i] := List.getElem?_eq_getElem ilt
      generalize ps[i] = x at hx
      have dp := cp i x hx
      have FS := Lib.hid (show frst (ps.take (i + 1)) = if d then (f, d) else if x then ((i : Int), true) else (0, false) from by
        rw [take_snoc hx, frst_snoc, HF.out, List.length_take, Nat.min_eq_left (by omega)])
      have FN := Lib.hid (show d = false → f = 0 from fun e => by have := frst_none (ps.take i); rw [HF.out] at this; exact this e)
      have kk := M.keep HM.out bb
      have ig0 : (0 : Int) ≤ (i : Int) * G := Int.mul_nonneg (by omega) (by omega)
      have ig1 : (i : Int) * G ≤ 64 * 256 := Int.mul_le_mul (by omega) (by omega) (by omega) (by omega)
      have PV := Lib.hid (show pageV F G ps.length i = .tuple #[.int .i64 (F + i * G), .int .i64 (F + i * G + G)] from if_pos ⟨by omega, by omega⟩)
      have i0 : (0 : Int) ≤ (i : Int) := by omega
      have i1 : (i : Int) < (ps.length : Int) := by omega
      have KK := Lib.hid kk
      clear hx cp kk r5
      -- the flags of this page
      cases x
      · have FE := Lib.hid (show frst (ps.take (i + 1)) = (f, d) from by
          rw [FS.out]
          cases d
          · rw [FN.out rfl]; rfl
          · rfl)
        go_wp2_with fail
        refine (M.page (i : Int) KK.out (by omega) (by omega)).mono ?_
        rintro e w6 ⟨rfl, b6⟩
        have bb := below_trans bb b6
        clear b6 c0 c1 c2 c4 dp
        rw [PV.out]
        have kr := HR.out.keep bb
        have km := M.keep HM.out bb
        obtain ⟨c0, c1, c2, c4, cp⟩ := kr.five
        clear c1 c4 cp
        go_wp2_with fail
        clear c0 c2
        have kr := kr.keep (below_drewN _ 1)
        have km := M.keep km (below_drewN _ 1)
        have bb := below_trans bb (below_drewN _ 1)
        have x1 : IntKind.i64.wrap ((i : Int) * G) = (i : Int) * G := by rw [IntKind.wrap_i64]; omega
        have x2 : IntKind.i64.wrap (F + (i : Int) * G) = F + (i : Int) * G := by rw [IntKind.wrap_i64]; omega
        have x3 : IntKind.i64.wrap (F + (i : Int) * G + G) = F + (i : Int) * G + G := by rw [IntKind.wrap_i64]; omega
        go_region_held3 (fun w' => w'.cell? ⟨a, 0, none⟩ = some (.int .i64 F) ∧ w'.cell? ⟨a, 2, none⟩ = some (.int .i64 G)) (exact ⟨kr.five.1, kr.five.2.2.1⟩)
          (first
          | (go_at_call 23; refine (M.starts _ _ km (by omega) (by omega) (by omega) (by omega)).mono ?_; rintro e v1 ⟨u1, rfl, o1, b2⟩; have kr := kr.keep b2; have km := M.keep km b2; have bb := below_trans bb b2; clear b2)
          | (go_at_call 17; refine (pStarts_any a pb F G _ _ v pgs ps _ kr).mono ?_; rintro e v2 ⟨u2, rfl, o2, b2⟩; have o1 := o1.below b2; have kr := kr.keep b2; have km := M.keep km b2; have bb := below_trans bb b2; clear b2)
          | (go_at_call 45; refine (ints_same _ _ _ _ _ _ o1 o2 (SF.out _ _)).mono ?_; rintro e v3 ⟨rfl, b2⟩; have kr := kr.keep b2; have km := M.keep km b2; have bb := below_trans bb b2; clear b2))
        all_goals
          go_wp2
          go_roundw
          case rel => exact ⟨i + 1, f, d, by omega, by go_num, rfl, rfl, FE, bb⟩
          case measure => simp [intOf]; omega
      · cases d
        · have FE := Lib.hid (show frst (ps.take (i + 1)) = ((i : Int), true) from FS.out)
          go_wp2_with fail
          refine (M.page (i : Int) KK.out (by omega) (by omega)).mono ?_
          rintro e w6 ⟨rfl, b6⟩
          have bb := below_trans bb b6
          clear b6 c0 c1 c2 c4 dp
          rw [PV.out]
          have kr := HR.out.keep bb
          have km := M.keep HM.out bb
          obtain ⟨c0, c1, c2, c4, cp⟩ := kr.five
          clear c1 c4 cp
          go_wp2_with fail
          clear c0 c2
          have kr := kr.keep (below_drewN _ 1)
          have km := M.keep km (below_drewN _ 1)
          have bb := below_trans bb (below_drewN _ 1)
          have x1 : IntKind.i64.wrap ((i : Int) * G) = (i : Int) * G := by rw [IntKind.wrap_i64]; omega
          have x2 : IntKind.i64.wrap (F + (i : Int) * G) = F + (i : Int) * G := by rw [IntKind.wrap_i64]; omega
          have x3 : IntKind.i64.wrap (F + (i : Int) * G + G) = F + (i : Int) * G + G := by rw [IntKind.wrap_i64]; omega
          go_region_held3 (fun w' => w'.cell? ⟨a, 0, none⟩ = some (.int .i64 F) ∧ w'.cell? ⟨a, 2, none⟩ = some (.int .i64 G)) (exact ⟨kr.five.1, kr.five.2.2.1⟩)
            (first
            | (go_at_call 23; refine (M.starts _ _ km (by omega) (by omega) (by omega) (by omega)).mono ?_; rintro e v1 ⟨u1, rfl, o1, b2⟩; have kr := kr.keep b2; have km := M.keep km b2; have bb := below_trans bb b2; clear b2)
            | (go_at_call 17; refine (pStarts_any a pb F G _ _ v pgs ps _ kr).mono ?_; rintro e v2 ⟨u2, rfl, o2, b2⟩; have o1 := o1.below b2; have kr := kr.keep b2; have km := M.keep km b2; have bb := below_trans bb b2; clear b2)
            | (go_at_call 45; refine (ints_same _ _ _ _ _ _ o1 o2 (SF.out _ _)).mono ?_; rintro e v3 ⟨rfl, b2⟩; have kr := kr.keep b2; have km := M.keep km b2; have bb := below_trans bb b2; clear b2))
          all_goals
            go_wp2
            go_roundw
            case rel => exact ⟨i + 1, i, true, by omega, by go_num, rfl, rfl, FE, bb⟩
            case measure => simp [intOf]; omega
        · have FE := Lib.hid (show frst (ps.take (i + 1)) = (f, true) from FS.out)
          go_wp2_with fail
          refine (M.page (i : Int) KK.out (by omega) (by omega)).mono ?_
          rintro e w6 ⟨rfl, b6⟩
          have bb := below_trans bb b6
          clear b6 c0 c1 c2 c4 dp
          rw [PV.out]
          have kr := HR.out.keep bb
          have km := M.keep HM.out bb
          obtain ⟨c0, c1, c2, c4, cp⟩ := kr.five
          clear c1 c4 cp
          go_wp2_with fail
          clear c0 c2
          have kr := kr.keep (below_drewN _ 1)
          have km := M.keep km (below_drewN _ 1)
          have bb := below_trans bb (below_drewN _ 1)
          have x1 : IntKind.i64.wrap ((i : Int) * G) = (i : Int) * G := by rw [IntKind.wrap_i64]; omega
          have x2 : IntKind.i64.wrap (F + (i : Int) * G) = F + (i : Int) * G := by rw [IntKind.wrap_i64]; omega
          have x3 : IntKind.i64.wrap (F + (i : Int) * G + G) = F + (i : Int) * G + G := by rw [IntKind.wrap_i64]; omega
          go_region_held3 (fun w' => w'.cell? ⟨a, 0, none⟩ = some (.int .i64 F) ∧ w'.cell? ⟨a, 2, none⟩ = some (.int .i64 G)) (exact ⟨kr.five.1, kr.five.2.2.1⟩)
            (first
            | (go_at_call 23; refine (M.starts _ _ km (by omega) (by omega) (by omega) (by omega)).mono ?_; rintro e v1 ⟨u1, rfl, o1, b2⟩; have kr := kr.keep b2; have km := M.keep km b2; have bb := below_trans bb b2; clear b2)
            | (go_at_call 17; refine (pStarts_any a pb F G _ _ v pgs ps _ kr).mono ?_; rintro e v2 ⟨u2, rfl, o2, b2⟩; have o1 := o1.below b2; have kr := kr.keep b2; have km := M.keep km b2; have bb := below_trans bb b2; clear b2)
            | (go_at_call 45; refine (ints_same _ _ _ _ _ _ o1 o2 (SF.out _ _)).mono ?_; rintro e v3 ⟨rfl, b2⟩; have kr := kr.keep b2; have km := M.keep km b2; have bb := below_trans bb b2; clear b2))
          all_goals
            go_wp2
            go_roundw
            case rel => exact ⟨i + 1, f, true, by omega, by go_num, rfl, rfl, FE, bb⟩
            case measure => simp [intOf]; omega
    · obtain rfl : i = ps.length := by omega
      have PV := Lib.hid (pendV_frst ps)
      rw [List.take_length] at HF
      rw [HF.out] at PV
      have Q1 := Lib.hid (show pageV F G ps.length (ps.length : Int) = .tuple #[.int .i64 0, .int .i64 0] from if_neg (by omega))
      have Q2 := Lib.hid (show pageV F G ps.length (-1) = .tuple #[.int .i64 0, .int .i64 0] from if_neg (by omega))
      have m6 := Lib.hid (M.keep HM.out bb)
      clear r5 cp
      go_wp2_with fail
      refine (M.pending m6.out).mono ?_
      rintro e w6 ⟨rfl, b6⟩
      rw [PV.out]
      have bb := below_trans bb b6
      have m6 := Lib.hid (M.keep HM.out bb)
      have r6 := HR.out.keep bb
      clear b6 c0 c1 c2 c4
      obtain ⟨c0, c1, c2, c4, _⟩ := r6.five
      clear r6
      go_wp2_with fail
      refine (M.page (ps.length : Int) m6.out (by omega) (by omega)).mono ?_
      rintro e w7 ⟨rfl, b7⟩
      show _
      rw [Q1.out]
      have bb := below_trans bb b7
      have m7 := Lib.hid (M.keep HM.out bb)
      clear b7 c0 c1 c2 c4 m6
      go_wp2_with fail
      refine (M.page (-1) m7.out (by omega) (by omega)).mono ?_
      rintro e w8 ⟨rfl, b8⟩
      rw [Q2.out]
      have bb := below_trans bb b8
      clear b8 m7
      go_wp2
      go_ret
      exact ⟨rfl, bb⟩
end Go.Proofs.Ytinoeofimajpdaa
