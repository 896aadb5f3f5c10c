/- Contract of Copy. -/
import Derived.Test.YthhbamllnacklaaArenaC
import Derived.BigRegion
import Derived.IntWalk
namespace Go.Proofs.Ythhbamllnacklaa
open Go.RowKit

theorem run_copy_words {P : Program} (w : World) (T ty elem : TypeId) (hu : P.underlying T = some (.slice elem)) (hs : (P.info? elem).map (·.size) = some 1) (b : Nat) (cur : List Value) (t : TypeId) (hg : w.heap[b]? = some (.cells cur.toArray t (0, 0)))
    (dp sp : Option Addr) (dc sc x y n : Nat) (hd : 0 < n → dp = some ⟨b, y, none⟩ ∧ sp = some ⟨b, x, none⟩) (hx : x + n ≤ cur.length) (hy : y + n ≤ cur.length) (h1 : ∀ v ∈ cur, v.oneCell' = true) :
    (Builtin.copy_ #[T, T] ty #[.slice dp n dc, .slice sp n sc]).run P w = .ok (goInt n) (w.setRow b (splice cur y ((cur.drop x).take n)).toArray) := by
  by_cases h0 : n = 0
  · subst h0
    have e : w.setRow b (splice cur y ((cur.drop x).take 0)).toArray = w := by
      have : splice cur y ((cur.drop x).take 0) = cur := by simp [splice]
      rw [this]
      exact setRow_self w b _ t _ hg
    rw [e]
    exact run_copy_none (P := P) w T T ty elem dp sp 0 dc 0 sc hu hs (by simp)
  · obtain ⟨rfl, rfl⟩ := hd (by omega)
    have hlen : ((cur.drop x).take n).length = n := by simp; omega
    have h := run_copy_row (P := P) w T T ty elem b y n dc ⟨b, x, none⟩ n sc cur.toArray t ((cur.drop x).take n) hu hs hg (by rw [hlen]; simp)
      (by
        intro j v hj
        have hjn : j < n := by have := (List.getElem?_eq_some_iff.1 hj).1; rw [hlen] at this; exact this
        have hadd : (⟨b, x, none⟩ : Addr).add j = ⟨b, x + j, none⟩ := by unfold Addr.add; split <;> simp_all
        rw [hadd, cell_of_row w b (x + j) cur.toArray t (0, 0) hg]
        rw [List.getElem?_take, if_pos hjn, List.getElem?_drop] at hj
        simpa using hj)
      (by rw [hlen]; simpa using hy) (fun v hv => h1 v (List.mem_of_mem_drop (List.mem_of_mem_take hv)))
    rw [h, hlen]
    simp only [splice, hlen, List.append_assoc]

theorem Turns.drew {a b : Nat} {ws : List Int} {c : Int} {w w' : World} (h : Turns a b ws c w w') : Turns a b ws c w w'.drew :=
  ⟨⟨h.is.1.drew, h.is.2.drew⟩, h.frm.drew, h.size⟩

set_option maxHeartbeats 2000000 in
theorem copy_pos (a b : Nat) (ws : List Int) (c : Int) (x y n : Nat) (w : World) (h : IsAr w a b ws c) (hl : ws.length ≤ 1048576) (hx : x + n ≤ ws.length) (hy : y + n ≤ ws.length) (hpos : 0 < n) :
    Calls Try.prog 35 #[arP a, .int .i64 x, .int .i64 y, .int .i64 n] w fun e w' => e = .returned (.int .i64 0) ∧ Turns a b (splice ws y ((ws.drop x).take n)) (addC c (2 * n)) w w' := by
  have HT := Lib.hid (turns_row h (addC c (2 * n)) y ((ws.drop x).take n) (by simp; omega) _ rfl)
  have hhx : hasB ws.length x n = true := (hasB_iff ..).2 ⟨by omega, by omega, by omega⟩
  have hhy : hasB ws.length y n = true := (hasB_iff ..).2 ⟨by omega, by omega, by omega⟩
  have hn := h.ne
  obtain ⟨c0, c1, f1⟩ := h.cells
  have HX := Lib.hid (has_any a b ws c x n w h hl (by omega))
  have HY := Lib.hid (has_any a b ws c y n w h hl (by omega))
  have HA := (isAr_count h (addC c (2 * n))).2
  have hx' : x + n ≤ (ws.map (Value.int .u64)).length := by simpa using hx
  have hy' : y + n ≤ (ws.map (Value.int .u64)).length := by simpa using hy
  have h1 : ∀ v ∈ ws.map (Value.int .u64), v.oneCell' = true := by intro v hv; obtain ⟨q, _, rfl⟩ := List.mem_map.1 hv; rfl
  rw [List.map_take, List.map_drop] at HT
  unfold u64s at HA
  generalize ws.map (Value.int .u64) = cur at *
  have hcl := Eq.refl ws.length
  obtain ⟨len, hlen⟩ : ∃ len, len = ws.length := ⟨_, rfl⟩
  rw [← hlen] at hl hx hy hhx hhy c0 HX HY
  have HLen := Lib.hid hlen.symm
  clear hlen hcl
  obtain ⟨cs, hcs⟩ : ∃ cs, cs = (cur.drop x).take n := ⟨_, rfl⟩
  have hcp : ∀ dp sp dc sc ty, (0 < n → dp = some ⟨b, y, none⟩ ∧ sp = some ⟨b, x, none⟩) → (Builtin.copy_ #[26, 26] ty #[.slice dp n dc, .slice sp n sc]).run Try.prog (w.setCell ⟨a, 1, none⟩ (.int .i64 (addC c (2 * n)))).drew =
      .ok (goInt n) ((w.setCell ⟨a, 1, none⟩ (.int .i64 (addC c (2 * n)))).drew.setRow b (splice cur y cs).toArray) := by
    intro dp sp dc sc ty hd
    rw [hcs]
    exact run_copy_words (P := Try.prog) (w.setCell ⟨a, 1, none⟩ (.int .i64 (addC c (2 * n)))).drew 26 ty 22 Try.underlying26 (by kernel_rfl) b cur 22 HA dp sp dc sc x y n hd hx' hy' h1
  rw [← hcs] at HT
  have c2 := (isAr_count h (addC c (2 * n))).cells.1
  rw [HLen.out] at c2
  clear hcs HA hx' hy' h1 h HLen
  rw [show addC c (2 * n) = wrap64 (c + 2 * n) from rfl] at HT hcp c2 ⊢
  have q1 : IntKind.i64.wrap ((x : Int) + n) = x + n := IntWalk.i64_in _ (by omega)
  have q2 : IntKind.i64.wrap ((y : Int) + n) = y + n := IntWalk.i64_in _ (by omega)
  have q3 : ((x : Int) + n).toNat = x + n := by omega
  have q4 : ((y : Int) + n).toNat = y + n := by omega
  have q5 : x + n - x = n := by omega
  have q6 : y + n - y = n := by omega
  have Q := Lib.hid (And.intro q1 (And.intro q2 (And.intro q3 (And.intro q4 (And.intro q5 q6)))))
  clear q1 q2 q3 q4 q5 q6
  have hcx : ¬ len = x := by omega
  have hcy : ¬ len = y := by omega
  replace hcp := fun ty => hcp (some ⟨b, y, none⟩) (some ⟨b, x, none⟩) (len - y) (len - x) ty (fun _ => ⟨rfl, rfl⟩)
  have HCP := Lib.hid hcp
  have HC2 := Lib.hid c2
  clear hcp c2
  go_enter Try.func35, Try.ntmps35
  go_wp2_with fail
  refine HX.out.mono ?_
  rintro e w' ⟨rfl, rfl⟩
  go_wp2_with fail
  refine HY.out.mono ?_
  rintro e w' ⟨rfl, rfl⟩
  go_wp2
  have hcp := HCP.out
  have c2 := HC2.out
  clear HCP HC2
  generalize w.setCell ⟨a, 1, none⟩ (.int .i64 (wrap64 (c + 2 * n))) = w2 at *
  obtain ⟨q1, q2, q3, q4, q5, q6⟩ := Q.out
  go_region
  clear q1 q2 q3 q4 q5 q6
  go_wp2
  go_ret
  exact ⟨rfl, HT.out.drew⟩

set_option maxHeartbeats 2000000 in
theorem copy_zero (a b : Nat) (ws : List Int) (c : Int) (x y : Nat) (w : World) (h : IsAr w a b ws c) (hl : ws.length ≤ 1048576) (hx : x ≤ ws.length) (hy : y ≤ ws.length) :
    Calls Try.prog 35 #[arP a, .int .i64 x, .int .i64 y, .int .i64 0] w fun e w' => e = .returned (.int .i64 0) ∧ Turns a b ws (addC c 0) w w' := by
  have HT := Lib.hid (turns_count h (addC c 0))
  have hhx : hasB ws.length x 0 = true := (hasB_iff ..).2 ⟨by omega, by omega, by omega⟩
  have hhy : hasB ws.length y 0 = true := (hasB_iff ..).2 ⟨by omega, by omega, by omega⟩
  have hn := h.ne
  obtain ⟨c0, c1, f1⟩ := h.cells
  have HX := Lib.hid (has_any a b ws c x 0 w h hl (by omega))
  have HY := Lib.hid (has_any a b ws c y 0 w h hl (by omega))
  have c2 := (isAr_count h (addC c 0)).cells.1
  clear h
  generalize ws.length = len at *
  have hcp : ∀ w ty dp sp dc sc, (Builtin.copy_ #[26, 26] ty #[.slice dp 0 dc, .slice sp 0 sc]).run Try.prog w = .ok (goInt 0) w := fun w ty dp sp dc sc =>
    run_copy_none (P := Try.prog) w 26 26 ty 22 dp sp 0 dc 0 sc Try.underlying26 (by kernel_rfl) (by simp)
  rw [show addC c 0 = wrap64 (c + 0) from rfl, Int.add_zero] at HT c2 ⊢
  have HC2 := Lib.hid c2
  clear c2
  go_enter Try.func35, Try.ntmps35
  go_wp2_with fail
  refine HX.out.mono ?_
  rintro e w' ⟨rfl, rfl⟩
  go_wp2_with fail
  refine HY.out.mono ?_
  rintro e w' ⟨rfl, rfl⟩
  go_wp2
  have c2 := HC2.out
  clear HC2
  generalize w.setCell ⟨a, 1, none⟩ (.int .i64 (wrap64 c)) = w2 at *
  go_region
  all_goals go_wp2
  all_goals
    go_ret
    exact ⟨rfl, HT.out.drew⟩

theorem copy_yes (a b : Nat) (ws : List Int) (c : Int) (x y n : Nat) (w : World) (h : IsAr w a b ws c) (hl : ws.length ≤ 1048576) (hx : x + n ≤ ws.length) (hy : y + n ≤ ws.length) :
    Calls Try.prog 35 #[arP a, .int .i64 x, .int .i64 y, .int .i64 n] w fun e w' => e = .returned (.int .i64 0) ∧ Turns a b (splice ws y ((ws.drop x).take n)) (addC c (2 * n)) w w' := by
  by_cases h0 : n = 0
  · subst h0
    have e : splice ws y ((ws.drop x).take 0) = ws := by simp [splice]
    rw [e]
    exact copy_zero a b ws c x y w h hl (by omega) (by omega)
  · exact copy_pos a b ws c x y n w h hl hx hy (by omega)
end Go.Proofs.Ythhbamllnacklaa
