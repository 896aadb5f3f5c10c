/- Contracts of the program's Size, Pending, Page and Used. -/
import Derived.Test.YtinoeofimajpdaaMatE
namespace Go.Proofs.Ytinoeofimajpdaa
open Go.RowKit

set_option maxHeartbeats 4000000 in
theorem mSize_any (b pb : Nat) (ub : Nat → Nat) (F G : Int) (pgs : List Pg) (ps : List Bool) (n : Int) (w : World) (h : IsSp w b pb ub F G pgs ps) (n0 : -9223372036854775808 ≤ n) (n1 : n ≤ 9223372036854775807) :
    Calls Try.prog 20 #[spP b, .int .i64 n] w fun e w' => e = .returned (sizeV (cellsP F G pgs) n) ∧ Below w.heap.size w w' := by
  have HF := Lib.hid (mFind_any b pb ub F G pgs ps n w h n0 n1)
  have HH := Lib.hid h
  clear h
  unfold spP at HF ⊢
  go_enter Try.func20, Try.ntmps20
  go_wp2_with fail
  refine HF.out.mono ?_
  rintro e w1 ⟨u, rfl, hA, b1⟩
  rcases hA with ⟨p, j, x, hx, ff, hj, hn, rfl⟩ | ⟨hn, rfl⟩
  · have E := Lib.hid (show sizeV (cellsP F G pgs) n = .tuple #[.int .i64 (x.size G), .bool true] from by rw [hn, sizeV, hit_some HH.out.g0 HH.out.wf hx hj]; rfl)
    have hi := HH.out.keep b1
    obtain ⟨c0, c1, c2, cf⟩ := hi.sp.three
    obtain ⟨p', _, d0, d1, d2, d3, df⟩ := hi.at_ hx
    have lt := (List.getElem?_eq_some_iff.1 hx).1
    clear c0 c1 d0 d2 d3 hi hx hj hn ff
    go_wp2
    go_ret2
    exact ⟨by rw [E.out]; rfl, b1⟩
  · have E := Lib.hid (show sizeV (cellsP F G pgs) n = .tuple #[.int .i64 0, .bool false] from by rw [sizeV, hn])
    clear hn
    go_wp2
    go_ret2
    exact ⟨by rw [E.out]; rfl, b1⟩

set_option maxHeartbeats 4000000 in
theorem mPending_any (b pb : Nat) (ub : Nat → Nat) (F G : Int) (pgs : List Pg) (ps : List Bool) (w : World) (h : IsSp w b pb ub F G pgs ps) :
    Calls Try.prog 24 #[spP b] w fun e w' => e = .returned (pendV ps) ∧ Below w.heap.size w w' := by
  have few := h.p1
  have HH := Lib.hid h
  have HA := Lib.hid (all_any b F G pb pgs.length w h.sp)
  have hN := h.len
  rw [hN] at HA
  have HN := Lib.hid hN
  clear h hN
  unfold spP at HA ⊢
  go_enter Try.func24, Try.ntmps24
  go_wp2_with fail
  refine HA.out.mono ?_
  rintro e w1 ⟨rfl, rfl⟩
  go_wp2_with fail
  go_loopw [9] (fun s9 wr => ∃ (k : Nat), k ≤ ps.length ∧ s9 = .int .i64 k ∧ Hid (∀ (i : Nat) (x : Bool), i < k → ps[i]? = some x → x = false) ∧ Below w.heap.size w wr) (fun s9 _ => ps.length - (intOf s9).toNat)
  case atStart => exact ⟨0, Nat.zero_le _, rfl, Lib.hid (fun i x hi => by omega), Below.refl _ _⟩
  case round =>
    obtain ⟨k, hk, rfl, HR, bb⟩ := hrel
    by_cases hlt : k < ps.length
    · obtain ⟨x, hx⟩ : ∃ x, pgs[k]? = some x := ⟨_, List.getElem?_eq_getElem (by have := HN.out; omega)⟩
      obtain ⟨p, hp, d0, d1, d2, d3, df⟩ := (HH.out.keep bb).at_ hx
      have HP := Lib.hid hp
      clear hx hp
      cases p
      · have R := Lib.hid (show ∀ (i : Nat) (x : Bool), i < k + 1 → ps[i]? = some x → x = false from fun i x hi hx => by
          by_cases e : i = k
          · subst e
            rw [HP.out] at hx
            cases hx
            rfl
          · exact HR.out i x (by omega) hx)
        go_wp2
        go_roundw
        case rel => exact ⟨k + 1, by omega, by go_num, R, bb.alloc bb.size _⟩
        case measure => simp [intOf]; omega
      · have E := Lib.hid (show pendV ps = .tuple #[.int .i64 k, .bool true] from by
          have : ps.findIdx? id = some k := by
            rw [List.findIdx?_eq_some_iff_getElem]
            refine ⟨hlt, ?_, fun i hi => ?_⟩
            · have := HP.out; rw [List.getElem?_eq_getElem hlt] at this; simpa using this
            · rw [HR.out i _ hi (List.getElem?_eq_getElem (by omega))]; exact Bool.false_ne_true
          rw [pendV, this])
        go_wp2
        go_ret2
        exact ⟨by rw [E.out]; rfl, bb.alloc bb.size _⟩
    · obtain rfl : k = ps.length := by omega
      have E := Lib.hid (show pendV ps = .tuple #[.int .i64 0, .bool false] from by
        have : ps.findIdx? id = none := by
          rw [List.findIdx?_eq_none_iff]
          intro x hx
          obtain ⟨i, hi, rfl⟩ := List.getElem_of_mem hx
          exact HR.out i _ hi (List.getElem?_eq_getElem hi)
        rw [pendV, this])
      go_wp2
      go_ret2
      exact ⟨by rw [E.out]; rfl, bb⟩

set_option maxHeartbeats 4000000 in
theorem mPage_any (b pb : Nat) (ub : Nat → Nat) (F G : Int) (pgs : List Pg) (ps : List Bool) (n : Int) (w : World) (h : IsSp w b pb ub F G pgs ps) :
    Calls Try.prog 25 #[spP b, .int .i64 n] w fun e w' => e = .returned (pageV F G ps.length n) ∧ Below w.heap.size w w' := by
  have few := h.p1
  have hN := h.len
  have hh := has_any b F G pb pgs.length n w h.sp
  rw [hN] at hh
  have f0 := h.f0
  have f1 := h.f1
  have g0 := h.g0
  have g1 := h.g1
  by_cases hin : 0 ≤ n ∧ n < ps.length
  · have E := Lib.hid (show pageV F G ps.length n = .tuple #[.int .i64 (F + n * G), .int .i64 (F + n * G + G)] from by rw [pageV, if_pos hin])
    obtain ⟨n0, n1⟩ := hin
    have hb : hasI ps.length n = true := by rw [hasI, decide_eq_true n0, decide_eq_true n1]; rfl
    rw [hb] at hh
    have HA := Lib.hid hh
    have KB := Lib.hid (begin_any b F G n pb pgs.length w h.sp f0 f1 g0 g1 n0 (by omega))
    have KC := Lib.hid (fun m => begin_any b F G (n + 1) pb pgs.length (w.drewN m) (h.keep (below_drewN _ m)).sp f0 f1 g0 g1 (by omega) (by omega))
    have em := Lib.hid (show F + (n + 1) * G = F + n * G + G from by rw [Int.add_mul, Int.one_mul]; omega)
    clear h hh hN hb
    unfold spP at HA KB KC ⊢
    go_enter Try.func25, Try.ntmps25
    go_wp2_with fail
    refine HA.out.mono ?_
    rintro e w1 ⟨rfl, rfl⟩
    go_wp2_with fail
    refine KB.out.mono ?_
    rintro e w1 ⟨rfl, m1, rfl⟩
    go_wp2_with fail
    refine (KC.out m1).mono ?_
    rintro e w1 ⟨rfl, m2, rfl⟩
    go_wp2
    go_ret2
    exact ⟨by rw [E.out, ← em.out]; rfl, below_drewN _ _⟩
  · have E := Lib.hid (show pageV F G ps.length n = .tuple #[.int .i64 0, .int .i64 0] from by rw [pageV, if_neg hin])
    have hb : hasI ps.length n = false := by
      rw [hasI, Bool.and_eq_false_iff, decide_eq_false_iff_not, decide_eq_false_iff_not]
      omega
    rw [hb] at hh
    have HA := Lib.hid hh
    clear h hh hN hb
    unfold spP at HA ⊢
    go_enter Try.func25, Try.ntmps25
    go_wp2_with fail
    refine HA.out.mono ?_
    rintro e w1 ⟨rfl, rfl⟩
    go_wp2
    go_ret2
    exact ⟨by rw [E.out]; rfl, Below.refl _ _⟩

/-- A flag of a page, as the loop reads it. -/
theorem IsSp.flag {w : World} {b pb : Nat} {ub : Nat → Nat} {F G : Int} {pgs : List Pg} {ps : List Bool} (h : IsSp w b pb ub F G pgs ps) {i j : Nat} {x : Pg} (hx : pgs[i]? = some x) (hj : j < x.flags.length) :
    ∃ y, x.flags[j]? = some y ∧ x.adr (ub i) = some ⟨ub i, 0, none⟩ ∧ w.cell? ⟨ub i, j, none⟩ = some (.bool y) ∧ (∀ k, w.frozen? ⟨ub i, k, none⟩ = false) := by
  have ff : x.first = true := by
    cases e : x.first with
    | true => rfl
    | false => rw [first_flags e] at hj; simp at hj
  have hb := h.fl i x hx ff
  exact ⟨x.flags[j], List.getElem?_eq_getElem hj, first_adr ff _, hb.bools (List.getElem?_eq_getElem hj), hb.frozen⟩

set_option maxHeartbeats 4000000 in
theorem mUsed_any (b pb : Nat) (ub : Nat → Nat) (F G : Int) (pgs : List Pg) (ps : List Bool) (w : World) (h : IsSp w b pb ub F G pgs ps) :
    Calls Try.prog 21 #[spP b] w fun e w' => e = .returned (.int .i64 (usedI (cellsP F G pgs))) ∧ Below w.heap.size w w' := by
  have few := h.p1
  rw [← h.len] at few
  have HH := Lib.hid h
  have HA := Lib.hid (all_any b F G pb pgs.length w h.sp)
  obtain ⟨N, hN⟩ : ∃ N, pgs.length = N := ⟨_, rfl⟩
  rw [hN] at HA few
  have HN := Lib.hid hN
  clear h hN
  unfold spP at HA ⊢
  go_enter Try.func21, Try.ntmps21
  go_wp2_with fail
  refine HA.out.mono ?_
  rintro e w1 ⟨rfl, rfl⟩
  go_wp2_with fail
  go_loopw [3, 11] (fun s s11 wr => ∃ (k : Nat) (q : Int), k ≤ N ∧ s11 = .int .i64 k ∧ s = .int .i64 q ∧ Hid (q = usedI (cellsP F G (pgs.take k))) ∧ 0 ≤ q ∧ q ≤ 1048576 * k ∧ Below w.heap.size w wr) (fun _ s11 _ => N - (intOf s11).toNat)
  case atStart => exact ⟨0, 0, Nat.zero_le _, rfl, rfl, Lib.hid (by rw [List.take_zero]; rfl), by omega, by omega, Below.refl _ _⟩
  case round =>
    obtain ⟨k, q, hk, rfl, rfl, HQ, q0, q1, bb⟩ := hrel
    by_cases hlt : k < N
    · obtain ⟨x, hx⟩ : ∃ x, pgs[k]? = some x := ⟨_, List.getElem?_eq_getElem (by have := HN.out; omega)⟩
      have hi := HH.out.keep bb
      obtain ⟨p, hp, d0, d1, d2, d3, df⟩ := hi.at_ hx
      obtain ⟨_, _, z0, z1, z2, _⟩ := hi.small hx
      have HX := Lib.hid hx
      clear hx hp
      have KI := Lib.hid (hi.keep ((Below.refl _ wr).alloc (Nat.le_refl _) (.cells #[.int .i64 x.kind, .int .i64 (x.size G), .slice (x.adr (ub k)) x.flags.length x.flags.length, .bool p] 62)))
      have BN := Lib.hid (bb.alloc bb.size (.cells #[.int .i64 x.kind, .int .i64 (x.size G), .slice (x.adr (ub k)) x.flags.length x.flags.length, .bool p] 62))
      clear hi
      go_wp2_with fail
      go_loopw [3, 18] (fun s s18 wr' => ∃ (j : Nat) (u : Int), j ≤ x.flags.length ∧ s18 = .int .i64 j ∧ s = .int .i64 (q + u) ∧ Hid (u = usedI ((x.cells F G k).take j)) ∧ 0 ≤ u ∧ u ≤ 16384 * j ∧ wr.alloc (.cells #[.int .i64 x.kind, .int .i64 (x.size G), .slice (x.adr (ub k)) x.flags.length x.flags.length, .bool p] 62) = wr') (fun _ s18 _ => x.flags.length - (intOf s18).toNat)
      case atStart => exact ⟨0, 0, Nat.zero_le _, rfl, by simp, Lib.hid (by rw [List.take_zero]; rfl), by omega, by omega, rfl⟩
      case round =>
        obtain ⟨j, u, hj, rfl, rfl, HU, u0, u1, rfl⟩ := hrel
        by_cases jlt : j < x.flags.length
        · obtain ⟨y, hy, ea, g0, gf⟩ := KI.out.flag HX.out jlt
          have HS := Lib.hid (show usedI ((x.cells F G k).take (j + 1)) = usedI ((x.cells F G k).take j) + (if y then x.size G else 0) from by
            rw [take_snoc (Pg.cells_at F G k x jlt), usedI_snoc]
            congr 1
            show (if x.flags.getD j false = true then x.size G else 0) = _
            rw [List.getD_eq_getElem?_getD, hy]
            rfl)
          clear hy
          rw [ea]
          rw [ea] at g0 gf
          clear ea
          cases y
          · go_wp2
            go_roundw
            case rel => exact ⟨j + 1, u, by omega, by go_num, rfl, Lib.hid (by rw [HS.out, HU.out]; simp), by omega, by omega, by trivial⟩
            case measure => simp [intOf]; omega
          · go_wp2
            go_roundw
            case rel => exact ⟨j + 1, u + x.size G, by omega, by go_num, by go_num, Lib.hid (by rw [HS.out, HU.out]; simp), by omega, by omega, by trivial⟩
            case measure => simp [intOf]; omega
        · obtain rfl : j = x.flags.length := by omega
          have HS := Lib.hid (show q + u = usedI (cellsP F G (pgs.take (k + 1))) from by
            rw [cellsP_take F G HX.out, usedI_append, HQ.out, HU.out, ← Pg.cells_length F G k x, List.take_length])
          go_wp2
          go_roundw
          case rel => exact ⟨k + 1, q + u, by omega, by go_num, rfl, HS, by omega, by omega, BN.out⟩
          case measure => simp [intOf]; omega
    · obtain rfl : k = N := by omega
      have E := Lib.hid (show usedI (cellsP F G pgs) = q from by rw [HQ.out, ← HN.out, List.take_length])
      go_wp2
      go_ret
      exact ⟨by rw [E.out]; rfl, bb⟩
end Go.Proofs.Ytinoeofimajpdaa
