/- Contracts of the program's row: put, all. -/
import Derived.Test.YtfjojpfknjdjiaaBufA
import Derived.StillTailTactics
namespace Go.Proofs.Ytfjojpfknjdjiaa
open Go.RowKit

set_option maxHeartbeats 2000000 in
theorem rput_no (b : Nat) (M : Int) (A : Option Addr) (n c : Nat) (xs : List Int) (x : Int) (w : World) (h : IsBuf w b M A n c xs) (hn : M ≤ n) :
    Calls Try.prog 36 #[bfP b, .int .i64 x] w fun e w' => e = .returned (.bool false) ∧ Below w.heap.size w w' := by
  obtain ⟨c0, c1, cf⟩ := h.two
  have d : decide ((n : Int) ≥ M) = true := decide_eq_true hn
  have d2 : decide (M ≤ (n : Int)) = true := decide_eq_true hn
  clear h
  go_enter Try.func36, Try.ntmps36
  go_wp2_with fail
  go_big_quiet (fail)
  go_wp2
  go_ret
  exact ⟨rfl, below_drewN _ _⟩

set_option maxHeartbeats 4000000 in
theorem rput_yes (b : Nat) (M : Int) (A : Option Addr) (n c : Nat) (xs : List Int) (x : Int) (w : World) (h : IsBuf w b M A n c xs) (hn : (n : Int) < M) :
    Calls Try.prog 36 #[bfP b, .int .i64 x] w fun e w' => e = .returned (.bool true) ∧ ∃ A' c', IsBuf w' b M A' (n + 1) c' (xs ++ [x]) ∧ BufT b A A' w w' := by
  obtain ⟨c0, c1, cf⟩ := h.two
  have d : decide ((n : Int) ≥ M) = false := decide_eq_false (by omega)
  have d2 : decide (M ≤ (n : Int)) = false := decide_eq_false (by omega)
  have few : n ≤ 1048576 := by have := h.m1; omega
  have HH := Lib.hid h
  have m1 := h.m1
  clear h
  go_enter Try.func36, Try.ntmps36
  go_wp2_with fail
  go_big_quiet (fail)
  generalize hW : w.drewN _ = W1
  have bw : Below w.heap.size w W1 := hW ▸ below_drewN _ _
  have H1 := Lib.hid (HH.out.keep bw)
  have BW := Lib.hid bw
  clear hW bw c0 c1 cf HH
  obtain ⟨c0, c1, cf⟩ := H1.out.two
  have hlt := H1.out.lt
  have H2 := Lib.hid (H1.out.keep ((Below.refl _ _).alloc (Nat.le_refl _) (.cells #[.int .i64 x] 3)))
  have B2 := Lib.hid (BW.out.alloc BW.out.size (.cells #[.int .i64 x] 3))
  have e2 := Lib.hid (show (W1.alloc (.cells #[.int .i64 x] 3)).cell? ⟨W1.heap.size, 0, none⟩ = some (.int .i64 x) from (Blk.new W1 #[.int .i64 x] 3).cell 0)
  clear BW H1 c1
  go_wp2_with (first
    | (at_builtin; (refine wpList_append_qu _ rfl _ _ rfl H2.out.row few x ⟨W1.heap.size, 0, none⟩ 1 rfl rfl e2.out ?_))
    | fail)
  intro A' c' w2 q g
  have hb2 : blkOf A ≠ some b := fun e => H2.out.ne e rfl
  have k2 := H2.out.blk.frm g.frm hb2
  have cf2 : w2.frozen? ⟨b, 0, none⟩ = false := k2.frozen 0
  have ex2 : w2.cell? ⟨b, 0, none⟩ = some (.slice A n c) := k2.cell 0
  have H3 := Lib.hid (show IsBuf (w2.setCell ⟨b, 0, none⟩ (.slice A' (n + 1) c')) b M A' (n + 1) c' (xs ++ [x]) from
    ⟨k2.set_ 0 _, q.frm (S := fun k => k = b) (Frm.setCell (S := fun k => k = b) (Frm.refl _ _) (p := ⟨b, 0, none⟩) (fun _ => rfl) _) (fun k hk e => by
      subst e
      rcases q.lies with ⟨rfl, _⟩ | ⟨g, off, cs, rfl, hb, _⟩
      · cases hk
      · cases hk
        exact Blk.ne_ k2 hb (by decide) rfl), H2.out.m0, m1, by omega⟩)
  have T := Lib.hid (show BufT b A A' w (w2.setCell ⟨b, 0, none⟩ (.slice A' (n + 1) c')) from
    ⟨((Frm.of_below B2.out : Frm (fun k => k = b ∨ blkOf A = some k) _ _).trans g.frm (fun i _ e => .inr e)).setCell (fun _ => .inl rfl) _,
     fun k hk => (g.at_ k hk).imp id fun h => Nat.le_trans B2.out.size h⟩)
  clear k2 q g H2 B2 e2 hb2 cf c0
  go_wp2
  go_ret
  exact ⟨rfl, A', c', H3.out, T.out⟩

end Go.Proofs.Ytfjojpfknjdjiaa
