/- Contracts of the program's Done and Pend. -/
import Derived.Test.YtinoeofimajpdaaMatM
import Derived.Deep.RegionHeld3
namespace Go.Proofs.Ytinoeofimajpdaa
open Go.RowKit

section
variable {w : World} {b pb : Nat} {ub : Nat → Nat} {F G : Int} {pgs : List Pg} {ps : List Bool}

theorem IsSp.b_ne (h : IsSp w b pb ub F G pgs ps) : b ≠ pb := Blk.ne_ h.sp h.pg (by decide)
theorem IsSp.f_ne (h : IsSp w b pb ub F G pgs ps) {i : Nat} {x : Pg} (hx : pgs[i]? = some x) (hf : x.first = true) : ub i ≠ pb := Blk.ne_ (h.fl i x hx hf) h.pg (by decide)
theorem IsSp.u_ne (h : IsSp w b pb ub F G pgs ps) {i : Nat} {x : Pg} (hx : pgs[i]? = some x) (hf : x.first = true) : b ≠ ub i := Blk.ne_ h.sp (h.fl i x hx hf) (by decide)

/-- A page's pending flag is set. -/
theorem IsSp.setPend (h : IsSp w b pb ub F G pgs ps) {i : Nat} {x : Pg} (hx : pgs[i]? = some x) (q : Bool) (hq : q = true → x.first = true) :
    IsSp (w.setCell ⟨pb, i * 4 + 3, none⟩ (.bool q)) b pb ub F G pgs (ps.set i q) := by
  have hi := (List.getElem?_eq_some_iff.1 hx).1
  have hl := h.len
  refine { h with sp := Blk.far h.sp h.b_ne _, pg := ?_, fl := fun k y hk hf => (h.fl k y hk hf).far (h.f_ne hk hf) _, pend := fun k hk => ?_, len := by rw [List.length_set]; exact h.len, p1 := by rw [List.length_set]; exact h.p1 }
  · have hb := h.pg.set_ (i * 4 + 3) (.bool q)
    have e : (flat4 pgs.length (stF G pgs ub ps)).set (i * 4 + 3) (.bool q) = flat4 pgs.length (stF G pgs ub (ps.set i q)) := by
      refine flat4_ext (stF_four G pgs ub (ps.set i q)) (by rw [List.length_set, flat4_length (stF_four G pgs ub ps)]) fun k j hk hj => ?_
      by_cases e1 : k = i
      · subst e1
        by_cases e2 : j = 3
        · subst e2
          rw [List.getElem?_set_self (by rw [flat4_length (stF_four G pgs ub ps)]; omega)]
          simp [stF, stV, List.getD_eq_getElem?_getD, show k < ps.length by omega]
        · rw [List.getElem?_set_ne (by omega), flat4_at (stF_four G pgs ub ps) hk hj]
          obtain rfl | rfl | rfl : j = 0 ∨ j = 1 ∨ j = 2 := by omega
          all_goals rfl
      · rw [List.getElem?_set_ne (by omega), flat4_at (stF_four G pgs ub ps) hk hj]
        unfold stF
        rw [List.getD_eq_getElem?_getD (l := ps.set i q), List.getElem?_set_ne (by omega), ← List.getD_eq_getElem?_getD]
    rw [← e]
    have e3 : (flat4 pgs.length (stF G pgs ub ps)).toArray.setIfInBounds (i * 4 + 3) (.bool q) = ((flat4 pgs.length (stF G pgs ub ps)).set (i * 4 + 3) (.bool q)).toArray := by
      apply Array.ext'
      simp
    rw [← e3]
    exact hb
  · by_cases e : k = i
    · subst e
      rw [List.getElem?_set_self (by omega)] at hk
      exact ⟨x, hx, hq (by simpa using hk)⟩
    · rw [List.getElem?_set_ne (by omega)] at hk
      exact h.pend k hk
end

set_option maxHeartbeats 4000000 in
theorem mDone_any (b pb : Nat) (ub : Nat → Nat) (F G : Int) (pgs : List Pg) (ps : List Bool) (n : Int) (w : World) (h : IsSp w b pb ub F G pgs ps) :
    Calls Try.prog 16 #[spP b, .int .i64 n] w fun e w' => e = .returned (.bool (wasB ps n)) ∧ IsSp w' b pb ub F G pgs (doneP ps n) ∧ Frm (· = pb) w w' := by
  have few := h.p1
  have hN := h.len
  have hh := has_any b F G pb pgs.length n w h.sp
  rw [hN] at hh
  by_cases hin : 0 ≤ n ∧ n < ps.length
  · obtain ⟨k, rfl⟩ : ∃ k : Nat, n = k := ⟨n.toNat, by omega⟩
    have hb : hasI ps.length k = true := by rw [hasI, decide_eq_true hin.1, decide_eq_true hin.2]; rfl
    rw [hb] at hh
    have klt : k < ps.length := by omega
    obtain ⟨x, hx⟩ : ∃ x, pgs[k]? = some x := ⟨_, List.getElem?_eq_getElem (by omega)⟩
    obtain ⟨p, hp, d0, d1, d2, d3, df⟩ := h.at_ hx
    obtain ⟨c0, c1, c2, cf⟩ := h.sp.three
    have E := Lib.hid (show wasB ps k = p from by rw [wasB, decide_eq_true hin.1, Int.toNat_natCast, hp]; rfl)
    have E2 := Lib.hid (show doneP ps k = ps.set k false from by
      rw [doneP, Int.toNat_natCast, wasB, decide_eq_true hin.1, Int.toNat_natCast, hp]
      cases p
      · rw [if_neg (by simp), set_same hp]
      · rw [if_pos (by simp)])
    have S := Lib.hid (h.setPend hx false (fun e => by cases e))
    rw [hN] at c2
    have HA := Lib.hid hh
    clear hh h hN hb hx hp d0 d1 d2 c0 c1 hin
    unfold spP at HA ⊢
    go_enter Try.func16, Try.ntmps16
    go_wp2_with fail
    refine HA.out.mono ?_
    rintro e w1 ⟨rfl, rfl⟩
    go_wp2
    go_ret
    exact ⟨by rw [E.out]; rfl, by rw [E2.out]; exact S.out, Frm.setCell (S := fun i => i = pb) (Frm.refl _ _) (p := ⟨pb, k * 4 + 3, none⟩) (fun _ => rfl) _⟩
  · have hb : hasI ps.length n = false := by
      rw [hasI, Bool.and_eq_false_iff, decide_eq_false_iff_not, decide_eq_false_iff_not]
      omega
    rw [hb] at hh
    have E := Lib.hid (show wasB ps n = false from by
      rw [wasB, Bool.and_eq_false_iff, decide_eq_false_iff_not]
      by_cases c : 0 ≤ n
      · right; rw [List.getElem?_eq_none (by omega)]; rfl
      · left; exact c)
    have E2 := Lib.hid (show doneP ps n = ps from by rw [doneP, E.out, if_neg (by simp)])
    have HH := Lib.hid h
    have HA := Lib.hid hh
    clear h hh hN hb
    unfold spP at HA ⊢
    go_enter Try.func16, Try.ntmps16
    go_wp2_with fail
    refine HA.out.mono ?_
    rintro e w1 ⟨rfl, rfl⟩
    go_wp2
    go_ret
    exact ⟨by rw [E.out]; rfl, by rw [E2.out]; exact HH.out, Frm.refl _ _⟩

def pendN (pgs : List Pg) (ps : List Bool) (k : Nat) : List Bool := (pgs.take k).map Pg.first ++ ps.drop k

theorem pendN_next {pgs : List Pg} {ps : List Bool} (hl : pgs.length = ps.length) {k : Nat} {x : Pg} (hx : pgs[k]? = some x) : (pendN pgs ps k).set k x.first = pendN pgs ps (k + 1) := by
  have hk := (List.getElem?_eq_some_iff.1 hx).1
  unfold pendN
  rw [take_snoc hx, List.map_append, List.map_singleton, List.drop_eq_getElem_cons (show k < ps.length by omega), List.append_assoc]
  rw [List.set_append_right _ _ (by rw [List.length_map, List.length_take]; omega)]
  congr 1
  rw [List.length_map, List.length_take, Nat.min_eq_left (by omega), Nat.sub_self]
  rfl

set_option maxHeartbeats 4000000 in
theorem mPend_any (b pb : Nat) (ub : Nat → Nat) (F G : Int) (pgs : List Pg) (ps : List Bool) (w : World) (h : IsSp w b pb ub F G pgs ps) :
    Calls Try.prog 14 #[spP b] w fun e w' => e = .returned (.tuple #[]) ∧ IsSp w' b pb ub F G pgs (pgs.map Pg.first) ∧ Frm (· = pb) w w' := by
  have few := h.p1
  rw [← h.len] at few
  have HL := Lib.hid h.len
  have HA := Lib.hid (all_any b F G pb pgs.length w h.sp)
  have HH := Lib.hid h
  obtain ⟨N, hN⟩ : ∃ N, pgs.length = N := ⟨_, rfl⟩
  rw [hN] at HA few
  have HN := Lib.hid hN
  clear h hN
  unfold spP at HA ⊢
  go_enter Try.func14, Try.ntmps14
  go_wp2_with fail
  refine HA.out.mono ?_
  rintro e w1 ⟨rfl, rfl⟩
  go_wp2_with fail
  go_loopw [7] (fun s7 wr => ∃ (k : Nat), k ≤ N ∧ s7 = .int .i64 k ∧ Hid (IsSp wr b pb ub F G pgs (pendN pgs ps k)) ∧ Frm (· = pb) w wr) (fun s7 _ => N - (intOf s7).toNat)
  case atStart => exact ⟨0, Nat.zero_le _, rfl, Lib.hid HH.out, Frm.refl _ _⟩
  case round =>
    obtain ⟨k, hk, rfl, HI, fr⟩ := hrel
    by_cases hlt : k < N
    · obtain ⟨x, hx⟩ : ∃ x, pgs[k]? = some x := ⟨_, List.getElem?_eq_getElem (by have := HN.out; omega)⟩
      obtain ⟨p, hp, d0, d1, d2, d3, df⟩ := HI.out.at_ hx
      have HX := Lib.hid hx
      clear hx hp
      have K1 := Lib.hid (HI.out.keep (((Below.refl _ wr).alloc (Nat.le_refl _) (.cells #[.int .i64 x.kind, .int .i64 (x.size G), .slice (x.adr (ub k)) x.flags.length x.flags.length, .bool p] 62)).drew))
      have F1 := Lib.hid ((fr.alloc (.cells #[.int .i64 x.kind, .int .i64 (x.size G), .slice (x.adr (ub k)) x.flags.length x.flags.length, .bool p] 62)).drew)
      have B1 := Lib.hid ((Blk.new wr #[.int .i64 x.kind, .int .i64 (x.size G), .slice (x.adr (ub k)) x.flags.length x.flags.length, .bool p] 62).drew)
      have pbl := HI.out.pg.lt
      clear fr
      go_wp2_with fail
      clear d0 d1 d2 d3 df
      have kk := K1.out
      have ff := F1.out
      have bb := B1.out
      have klt : (k : Int) < (N : Int) := by omega
      have k0 : (0 : Int) ≤ k := by omega
      go_region_held3 (fun w' => w'.cell? ⟨b, 2, none⟩ = some (.slice (some ⟨pb, 0, none⟩) N N) ∧ w'.cell? ⟨wr.heap.size, 0, none⟩ = some (.int .i64 x.kind) ∧ w'.cell? ⟨wr.heap.size, 1, none⟩ = some (.int .i64 (x.size G)) ∧ w'.cell? ⟨wr.heap.size, 2, none⟩ = some (.slice (x.adr (ub k)) x.flags.length x.flags.length) ∧ w'.cell? ⟨wr.heap.size, 3, none⟩ = some (.bool p)) (first
        | exact ⟨by rw [← HN.out]; exact kk.sp.three.2.2.1, bb.cell 0, bb.cell 1, bb.cell 2, bb.cell 3⟩
        | (have bb2 := bb.far (p := ⟨pb, k * 4 + 3, none⟩) (show wr.heap.size ≠ pb by omega) (.bool (firstB x.kind))
           have kk2 : SpB _ b F G pb pgs.length := Blk.far kk.sp (p := ⟨pb, k * 4 + 3, none⟩) kk.b_ne (.bool (firstB x.kind))
           exact ⟨by rw [← HN.out]; exact kk2.three.2.2.1, bb2.cell 0, bb2.cell 1, bb2.cell 2, bb2.cell 3⟩))
        (first
        | (go_at_call 41; refine (holds_any _ _ _ _ _).mono ?_; rintro e v1 ⟨rfl, b1⟩; have kk := kk.keep b1; have ff := ff.trans (Frm.of_below (S := (· = pb)) b1) (fun _ _ h => h); have bb := bb.keep b1; obtain ⟨p9, hp9, y0, y1, y2, y3, yf⟩ := kk.at_ HX.out; clear b1 hp9 y0 y1 y2))
      all_goals
        go_wp2
        go_roundw
        case rel => exact ⟨k + 1, by omega, by go_num, Lib.hid (by
          have e := kk.setPend HX.out (firstB x.kind) (fun e => by rw [← kind_first]; exact e)
          rw [kind_first, pendN_next HL.out HX.out] at e
          rw [kind_first]
          exact e), Frm.setCell (S := fun i => i = pb) ff (p := ⟨pb, k * 4 + 3, none⟩) (fun _ => rfl) _⟩
        case measure => simp [intOf]; omega
    · obtain rfl : k = N := by omega
      have E := Lib.hid (show pendN pgs ps k = pgs.map Pg.first from by
        rw [pendN, ← HN.out, List.take_length, List.drop_eq_nil_of_le (by rw [HL.out]; exact Nat.le_refl _), List.append_nil])
      go_wp2
      go_end0
      exact ⟨rfl, by rw [← E.out]; exact HI.out, fr⟩
end Go.Proofs.Ytinoeofimajpdaa
