/- Contracts of the program's stack: All, Put; of none, too. -/
import Derived.Test.YtbfgmpbbodlgiaaGrA
import Derived.Test.YtbfgmpbbodlgiaaLists
namespace Go.Proofs.Ytbfgmpbbodlgiaa
open Go.RowKit

/-- A slice beside nil. -/
theorem eq_nilSlice (a : Addr) (n c : Nat) (v : World) : Sem.run Try.prog (binOp .eql 25 (.slice (some a) n c) (.slice none 0 0)) v = .ok (.bool false) v := rfl
theorem eq_nilNil (v : World) : Sem.run Try.prog (binOp .eql 25 (.slice none 0 0) (.slice none 0 0)) v = .ok (.bool true) v := rfl

section
variable (b : Nat) (M : Int) (l : Bool) (A : Option Addr) (n c : Nat) (xs : List Int) (x : Int) (w : World)

set_option maxHeartbeats 2000000 in
theorem clone_qu (h : Qu w A n c xs) (few : n ≤ 1048576) :
    Calls Try.prog 17 #[.slice A n c] w fun e w' => ∃ A' c', e = .returned (.slice A' n c') ∧ Qu w' A' n c' xs ∧ Below w.heap.size w w' ∧ ∀ k, blkOf A' = some k → w.heap.size ≤ k := by
  have hA := h.lies
  have Q := Lib.hid (h.keep ((Below.refl _ _).alloc (Nat.le_refl _) (.cells #[] 3)))
  have G := Lib.hid (Blk.new w #[] 3)
  have H := Lib.hid h
  rcases hA with ⟨rfl, rfl⟩ | ⟨g, off, cs, rfl, _, _, _⟩
  · obtain rfl : n = 0 := by have := h.le; omega
    have en := eq_nilNil
    clear h Q G
    go_enter Try.func17, Try.ntmps17
    go_wp2
    go_ret
    exact ⟨_, _, rfl, H.out, Below.refl _ _, fun k hk => by cases hk⟩
  · have en := eq_nilSlice
    clear h H
    go_enter Try.func17, Try.ntmps17
    go_wp2_with (first
      | (at_builtin; (refine wpList_clone_qu _ rfl _ _ rfl Q.out few w.heap.size G.out rfl rfl ?_))
      | fail)
    intro A' c' w2 q bb hf
    have Q2 := Lib.hid (And.intro q (And.intro (((Below.refl _ w).alloc (Nat.le_refl _) (.cells #[] 3)).trans (bb.mono (by omega))) (show ∀ k, blkOf A' = some k → w.heap.size ≤ k from fun k hk => by
      rcases hf k hk with rfl | h
      · exact Nat.le_refl _
      · omega)))
    clear q bb hf Q G
    go_wp2
    go_ret
    exact ⟨A', c', rfl, Q2.out.1, Q2.out.2.1, Q2.out.2.2⟩

set_option maxHeartbeats 1000000 in
theorem grAll_any (h : IsGr w b M l A n c xs) :
    Calls Try.prog 15 #[grP b] w fun e w' => ∃ A' c', e = .returned (.slice A' n c') ∧ Qu w' A' n c' xs ∧ Below w.heap.size w w' ∧ ∀ k, blkOf A' = some k → w.heap.size ≤ k := by
  obtain ⟨c0, c1, c2, cf⟩ := h.three
  have H := Lib.hid (clone_qu A n c xs w h.row (by have := h.m1; have := h.few; omega))
  clear h c1 c2 cf
  go_enter Try.func15, Try.ntmps15
  go_wp2_with fail
  refine H.out.mono ?_
  rintro e w1 ⟨A', c', rfl, b1⟩
  have B := Lib.hid b1
  clear b1
  go_wp2
  go_ret
  exact ⟨A', c', rfl, B.out⟩

set_option maxHeartbeats 1000000 in
theorem grAll_nil : Calls Try.prog 15 #[.pointer none] w fun e w' => e = .returned (.slice none 0 0) ∧ w = w' := by
  go_enter Try.func15, Try.ntmps15
  go_wp2
  go_ret
  exact ⟨rfl, rfl⟩

set_option maxHeartbeats 1000000 in
theorem grPut_nil (L : Option Addr) (m d : Nat) : Calls Try.prog 11 #[.pointer none, .slice L m d] w fun e w' => e = .returned (.tuple #[]) ∧ w = w' := by
  go_enter Try.func11, Try.ntmps11
  go_wp2
  first | go_end0 | refine bodyPost_ret (results_none rfl _ _ _) rfl ?_
  exact ⟨rfl, rfl⟩
end

/-- What stands there when the first i of ys have been pushed. -/
def PutR (w : World) (b : Nat) (M : Int) (l : Bool) (A : Option Addr) (ys : List Int) (i : Nat) (w' : World) : Prop :=
  ∃ A' n' c', IsGr w' b M (l || decide (M < (i : Int))) A' n' c' (ys.take (min i M.toNat)) ∧ GrT b A A' w w'

set_option maxHeartbeats 4000000 in
theorem grPut_any (b : Nat) (M : Int) (l : Bool) (A : Option Addr) (n c : Nat) (xs ys : List Int) (L : Option Addr) (m d : Nat) (w : World) (h : IsGr w b M l A n c xs) (rd : Rd .i64 w L m ys) (hm : m ≤ maxLen)
    (far : 0 < m → ∀ ad, L = some ad → ad.block ≠ b ∧ blkOf A ≠ some ad.block) :
    Calls Try.prog 11 #[grP b, .slice L m d] w fun e w' => e = .returned (.tuple #[]) ∧ ∃ A' n' c', IsGr w' b M (l || decide (M < (m : Int))) A' n' c' (ys.take M.toNat) ∧ GrT b A A' w w' := by
  obtain ⟨c0, c1, c2, cf⟩ := h.three
  have m0 := h.m0
  have m1 := h.m1
  have hlt := h.lt
  have cm := h.row.max
  have hA := h.row.lies
  unfold maxLen at cm
  have mm : m ≤ 9223372036854775807 := by simp only [maxLen] at hm; omega
  have HS := Lib.hid (show PutR w b M l A ys 0 (w.setCell ⟨b, 0, none⟩ (.slice A 0 c)) from ⟨A, 0, c, by
    have e : decide (M < ((0 : Nat) : Int)) = false := decide_eq_false (by omega)
    rw [e, Bool.or_false]
    simpa using h.set h.row.none_ (by omega), GrT.set 0 _⟩)
  have RD := Lib.hid rd
  have FA := Lib.hid far
  have HL := Lib.hid rd.1
  clear h rd far hm
  rcases hA with ⟨rfl, rfl⟩ | ⟨g, off, cs, rfl, _, _, _⟩
  all_goals
    go_enter Try.func11, Try.ntmps11
    go_wp2_with fail
    go_loopw [18] (fun s wr => ∃ i : Nat, i ≤ m ∧ s = .int .i64 i ∧ Hid (PutR w b M l _ ys i wr)) (fun s _ => m - (intOf s).toNat)
    case atStart => exact ⟨0, Nat.zero_le _, rfl, HS⟩
    case round =>
      obtain ⟨i, hi, rfl, HP⟩ := hrel
      clear HS c0 c1 c2 cf
      by_cases l1 : i < m
      · obtain ⟨A', n', c', hg, ht⟩ := HP.out
        have hx := List.getElem?_eq_getElem (l := ys) (i := i) (by have := HL.out; omega)
        generalize ys[i]'(by have := HL.out; omega) = x at hx
        obtain ⟨ad, eL, hb, hc⟩ := RD.out.2 i x hx
        subst eL
        have fa := FA.out (by omega) ad rfl
        have hcell : wr.cell? (ad.add i) = some (.int .i64 x) := by
          have hk : (ad.add i).block = ad.block := block_of_add _ _
          rw [← hc]
          unfold World.cell?
          rw [hk, ht.frm.block ad.block hb (fun e => e.elim fa.1 fa.2)]
        have ln : n' = min i M.toNat := by have := hg.row.len; rw [List.length_take, HL.out] at this; omega
        by_cases hf : (n' : Int) < M
        · have HC := Lib.hid (grPush_yes b M _ A' n' c' _ x wr hg hf)
          have HT := Lib.hid ht
          have iM : (i : Int) < M := by omega
          have HE := Lib.hid (show ys.take (min i M.toNat) ++ [x] = ys.take (min (i + 1) M.toNat) from by
            rw [show min i M.toNat = i by omega, show min (i + 1) M.toNat = i + 1 by omega, List.take_add_one, hx]; rfl)
          have HD := Lib.hid (show decide (M < (i : Int)) = decide (M < ((i + 1 : Nat) : Int)) from by rw [decide_eq_false (by omega), decide_eq_false (by omega)])
          clear hg ht hx hc fa hf ln
          go_wp2_with fail
          refine HC.out.mono ?_
          rintro e w2 ⟨rfl, A2, c2, hg2, ht2⟩
          rw [HE.out, HD.out] at hg2
          have HN := Lib.hid (show PutR w b M l _ ys (i + 1) w2 from ⟨A2, _, c2, hg2, HT.out.trans ht2⟩)
          clear hg2 ht2 HT HC HP HE HD hcell
          go_wp2
          go_roundw
          case rel => exact ⟨i + 1, by omega, by go_num, HN⟩
          case measure => simp [intOf]; omega
        · have HC := Lib.hid (grPush_no b M _ A' n' c' _ x wr hg (by omega))
          have HT := Lib.hid ht
          have HE := Lib.hid (show ys.take (min i M.toNat) = ys.take (min (i + 1) M.toNat) from by
            rw [show min i M.toNat = min (i + 1) M.toNat by omega])
          have HD := Lib.hid (show true = (l || decide (M < ((i + 1 : Nat) : Int))) from by rw [decide_eq_true (by omega), Bool.or_true])
          clear hg ht hx hc fa hf ln
          go_wp2_with fail
          refine HC.out.mono ?_
          rintro e w2 ⟨rfl, hg2, ht2⟩
          rw [HE.out, HD.out] at hg2
          have HN := Lib.hid (show PutR w b M l _ ys (i + 1) w2 from ⟨A', _, c', hg2, HT.out.trans ht2⟩)
          clear hg2 ht2 HT HC HP HE HD hcell
          go_wp2
          go_roundw
          case rel => exact ⟨i + 1, by omega, by go_num, HN⟩
          case measure => simp [intOf]; omega
      · obtain rfl : i = m := by omega
        have e : ys.take (min i M.toNat) = ys.take M.toNat := by
          rw [← HL.out, Nat.min_comm, ← List.take_take, List.take_length]
        have HP := Lib.hid (show ∃ A' n' c', IsGr wr b M (l || decide (M < (i : Int))) A' n' c' (ys.take M.toNat) ∧ GrT b _ A' w wr from by rw [← e]; exact HP.out)
        clear e
        go_wp2
        first | go_end0 | refine bodyPost_ret (results_none rfl _ _ _) rfl ?_
        exact ⟨rfl, HP.out⟩
end Go.Proofs.Ytbfgmpbbodlgiaa
