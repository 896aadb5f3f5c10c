/- A stack in memory; contracts of the program's New, Len, Lost, Found, Pop, Push. -/
import Derived.Test.YtbfgmpbbodlgiaaQuB
import Derived.Test.YtbfgmpbbodlgiaaCutI
import Derived.Deep.QuietTactic
import Derived.BigQuiet
import Derived.BigRegion
import Derived.IntWalk
namespace Go.Proofs.Ytbfgmpbbodlgiaa
open Go.RowKit

/-- Block b is a stack with room for M, whose slice (A, n, c) holds xs; l: something is lost. -/
structure IsGr (w : World) (b : Nat) (M : Int) (l : Bool) (A : Option Addr) (n c : Nat) (xs : List Int) : Prop where
  blk : Blk w b #[.slice A n c, .int .i64 M, .bool l] 40
  row : Qu w A n c xs
  m0 : 0 ≤ M
  m1 : M ≤ 1048576
  few : (n : Int) ≤ M

abbrev grP (b : Nat) : Value := .pointer (some ⟨b, 0, none⟩)

/-- Only the stack has turned; its slice lies where it lay, or in a new block. -/
structure GrT (b : Nat) (A A' : Option Addr) (w w' : World) : Prop where
  frm : Frm (fun k => k = b ∨ blkOf A = some k) w w'
  at_ : ∀ k, blkOf A' = some k → blkOf A = some k ∨ w.heap.size ≤ k

theorem GrT.of_below {b : Nat} {A : Option Addr} {w w' : World} (h : Below w.heap.size w w') : GrT b A A w w' := ⟨Frm.of_below h, fun _ hk => .inl hk⟩
theorem GrT.trans {b : Nat} {A B C : Option Addr} {u v w : World} (h : GrT b A B u v) (k : GrT b B C v w) : GrT b A C u w :=
  ⟨h.frm.trans k.frm (fun i hi e => e.imp id fun e => (h.at_ i e).resolve_right (by omega)), fun i e => (k.at_ i e).elim (fun e => h.at_ i e) fun e => .inr (Nat.le_trans h.frm.size e)⟩

section
variable {w w' : World} {b : Nat} {M : Int} {l : Bool} {A : Option Addr} {n c : Nat} {xs : List Int}
theorem IsGr.ne (h : IsGr w b M l A n c xs) {k : Nat} (hk : blkOf A = some k) : b ≠ k := by
  rcases h.row.lies with ⟨rfl, _⟩ | ⟨g, off, cs, rfl, hb, _⟩
  · cases hk
  · cases hk
    exact Blk.ne_ h.blk hb (by decide)
theorem IsGr.lt (h : IsGr w b M l A n c xs) : b < w.heap.size := h.blk.lt
theorem IsGr.keep (h : IsGr w b M l A n c xs) (f : Below w.heap.size w w') : IsGr w' b M l A n c xs := { h with blk := h.blk.keep f, row := h.row.keep f }
theorem IsGr.frm {S : Nat → Prop} (h : IsGr w b M l A n c xs) (f : Frm S w w') (hb : ¬ S b) (hs : ∀ k, blkOf A = some k → ¬ S k) : IsGr w' b M l A n c xs := { h with blk := h.blk.frm f hb, row := h.row.frm f hs }
theorem IsGr.three (h : IsGr w b M l A n c xs) : w.cell? ⟨b, 0, none⟩ = some (.slice A n c) ∧ w.cell? ⟨b, 1, none⟩ = some (.int .i64 M) ∧ w.cell? ⟨b, 2, none⟩ = some (.bool l) ∧ (∀ i, w.frozen? ⟨b, i, none⟩ = false) := ⟨h.blk.cell 0, h.blk.cell 1, h.blk.cell 2, h.blk.frozen⟩

/-- A stack's slice is laid anew. -/
theorem IsGr.set {A' : Option Addr} {n' c' : Nat} {xs' : List Int} (h : IsGr w b M l A n c xs) (q : Qu w A' n' c' xs') (few : (n' : Int) ≤ M) :
    IsGr (w.setCell ⟨b, 0, none⟩ (.slice A' n' c')) b M l A' n' c' xs' :=
  ⟨h.blk.set_ 0 _, q.frm (S := fun k => k = b) (Frm.setCell (S := fun k => k = b) (Frm.refl _ _) (p := ⟨b, 0, none⟩) (fun _ => rfl) _) (fun k hk e => by
    subst e
    rcases q.lies with ⟨rfl, _⟩ | ⟨g, off, cs, rfl, hb, _⟩
    · cases hk
    · cases hk
      exact Blk.ne_ h.blk hb (by decide) rfl), h.m0, h.m1, few⟩

/-- Whether something is lost is said anew. -/
theorem IsGr.say (h : IsGr w b M l A n c xs) (l' : Bool) : IsGr (w.setCell ⟨b, 2, none⟩ (.bool l')) b M l' A n c xs :=
  ⟨h.blk.set_ 2 _, h.row.frm (S := fun k => k = b) (Frm.setCell (S := fun k => k = b) (Frm.refl _ _) (p := ⟨b, 2, none⟩) (fun _ => rfl) _) (fun _ hk e => h.ne hk e.symm), h.m0, h.m1, h.few⟩

theorem GrT.set (i : Nat) (u : Value) : GrT b A A w (w.setCell ⟨b, i, none⟩ u) := ⟨(Frm.refl _ _).setCell (fun _ => .inl rfl) _, fun _ hk => .inl hk⟩
end

set_option maxHeartbeats 1000000 in
theorem grNew_any (m : Int) (w : World) :
    Calls Try.prog 7 #[.int .i64 m] w fun e w' => e = .returned (grP w.heap.size) ∧ IsGr w' w.heap.size (cutI m 0 1048576) false none 0 0 [] ∧ Below w.heap.size w w' := by
  have key := Lib.hid (show ∀ K : Int, cutI m 0 1048576 = K → IsGr (w.alloc (.cells #[.slice none 0 0, .int .i64 K, .bool false] 40)) w.heap.size (cutI m 0 1048576) false none 0 0 [] from by
    rintro _ rfl
    exact ⟨Blk.new _ _ _, Qu.nil _, (cutI_in (by decide)).1, (cutI_in (by decide)).2, (cutI_in (by decide)).1⟩)
  go_enter Try.func7, Try.ntmps7
  go_wp2
  all_goals
    go_ret
    exact ⟨rfl, key.out _ (by unfold cutI; split <;> (try split) <;> omega), (Below.refl _ _).alloc (Nat.le_refl _) _⟩

section
variable (b : Nat) (M : Int) (l : Bool) (A : Option Addr) (n c : Nat) (xs : List Int) (x : Int) (w : World)

set_option maxHeartbeats 1000000 in
theorem grLen_any (h : IsGr w b M l A n c xs) :
    Calls Try.prog 13 #[grP b] w fun e w' => e = .returned (.int .i64 n) ∧ w = w' := by
  obtain ⟨c0, c1, c2, cf⟩ := h.three
  clear h c1 c2 cf
  go_enter Try.func13, Try.ntmps13
  go_wp2
  go_ret
  exact ⟨rfl, rfl⟩

set_option maxHeartbeats 1000000 in
theorem grLen_nil : Calls Try.prog 13 #[.pointer none] w fun e w' => e = .returned (.int .i64 0) ∧ w = w' := by
  go_enter Try.func13, Try.ntmps13
  go_wp2
  go_ret
  exact ⟨rfl, rfl⟩

set_option maxHeartbeats 1000000 in
theorem grLost_any (h : IsGr w b M l A n c xs) :
    Calls Try.prog 12 #[grP b] w fun e w' => e = .returned (.bool l) ∧ w = w' := by
  obtain ⟨c0, c1, c2, cf⟩ := h.three
  clear h c1 c0 cf
  go_enter Try.func12, Try.ntmps12
  go_wp2
  go_ret
  exact ⟨rfl, rfl⟩

set_option maxHeartbeats 1000000 in
theorem grLost_nil : Calls Try.prog 12 #[.pointer none] w fun e w' => e = .returned (.bool false) ∧ w = w' := by
  go_enter Try.func12, Try.ntmps12
  go_wp2
  go_ret
  exact ⟨rfl, rfl⟩

set_option maxHeartbeats 1000000 in
theorem grFound_any (h : IsGr w b M l A n c xs) :
    Calls Try.prog 10 #[grP b] w fun e w' => e = .returned (.tuple #[]) ∧ IsGr w' b M false A n c xs ∧ GrT b A A w w' := by
  obtain ⟨c0, c1, c2, cf⟩ := h.three
  have H := Lib.hid (h.say false)
  clear h c1 c0
  go_enter Try.func10, Try.ntmps10
  go_wp2
  first | go_end0 | refine bodyPost_ret (results_none rfl _ _ _) rfl ?_
  exact ⟨rfl, H.out, GrT.set 2 _⟩

set_option maxHeartbeats 1000000 in
theorem grFound_nil : Calls Try.prog 10 #[.pointer none] w fun e w' => e = .returned (.tuple #[]) ∧ w = w' := by
  go_enter Try.func10, Try.ntmps10
  go_wp2
  first | go_end0 | refine bodyPost_ret (results_none rfl _ _ _) rfl ?_
  exact ⟨rfl, rfl⟩

set_option maxHeartbeats 1000000 in
theorem grPop_no (h : IsGr w b M l A 0 c []) :
    Calls Try.prog 9 #[grP b] w fun e w' => e = .returned (.tuple #[.int .i64 0, .bool false]) ∧ w = w' := by
  have H := Lib.hid (grLen_any b M l A 0 c [] w h)
  clear h
  go_enter Try.func9, Try.ntmps9
  go_wp2_with fail
  refine H.out.mono ?_
  rintro e w1 ⟨rfl, rfl⟩
  go_wp2
  go_ret2
  exact ⟨rfl, rfl⟩

set_option maxHeartbeats 1000000 in
theorem grPop_nil : Calls Try.prog 9 #[.pointer none] w fun e w' => e = .returned (.tuple #[.int .i64 0, .bool false]) ∧ w = w' := by
  go_enter Try.func9, Try.ntmps9
  go_wp2_with fail
  refine (grLen_nil w).mono ?_
  rintro e w1 ⟨rfl, rfl⟩
  go_wp2
  go_ret2
  exact ⟨rfl, rfl⟩

set_option maxHeartbeats 2000000 in
theorem grPop_yes (h : IsGr w b M l A (n + 1) c (xs ++ [x])) :
    Calls Try.prog 9 #[grP b] w fun e w' => e = .returned (.tuple #[.int .i64 x, .bool true]) ∧ IsGr w' b M l A n c xs ∧ GrT b A A w w' := by
  have H := Lib.hid (grLen_any b M l A (n + 1) c (xs ++ [x]) w h)
  obtain ⟨g, off, rfl, hg, hx, hf⟩ := h.row.at_ (by omega)
  have hl : xs.length = n := by have := h.row.len; simp at this; exact this
  have x0 := hx n x (by rw [← hl]; simp)
  obtain ⟨c0, c1, c2, cf⟩ := h.three
  have hne : b ≠ g := h.ne rfl
  have few := h.few
  have m1 := h.m1
  have le := h.row.le
  have cm := h.row.max
  unfold maxLen at cm
  have HB := Lib.hid (h.set (n' := n) h.row.but (by omega))
  clear h hx hf c1 c2 hl
  go_enter Try.func9, Try.ntmps9
  go_wp2_with fail
  refine H.out.mono ?_
  rintro e w1 ⟨rfl, rfl⟩
  clear H
  go_wp2
  go_ret2
  exact ⟨rfl, HB.out, GrT.set 0 _⟩

set_option maxHeartbeats 1000000 in
theorem grPush_nil : Calls Try.prog 8 #[.pointer none, .int .i64 x] w fun e w' => e = .returned (.bool false) ∧ w = w' := by
  go_enter Try.func8, Try.ntmps8
  go_wp2
  go_ret
  exact ⟨rfl, rfl⟩

set_option maxHeartbeats 2000000 in
theorem grPush_no (h : IsGr w b M l A n c xs) (hn : M ≤ n) :
    Calls Try.prog 8 #[grP b, .int .i64 x] w fun e w' => e = .returned (.bool false) ∧ IsGr w' b M true A n c xs ∧ GrT b A A w w' := by
  obtain ⟨c0, c1, c2, cf⟩ := h.three
  have d : decide ((n : Int) ≥ M) = true := decide_eq_true hn
  have d2 : decide (M ≤ (n : Int)) = true := decide_eq_true hn
  have HH := Lib.hid h
  clear h
  go_enter Try.func8, Try.ntmps8
  go_wp2_with fail
  go_big_quiet (fail)
  generalize hW : w.drewN _ = W1
  have bw : Below w.heap.size w W1 := hW ▸ below_drewN _ _
  have H1 := Lib.hid (HH.out.keep bw)
  have BW := Lib.hid bw
  clear hW bw c0 c1 c2 cf HH
  obtain ⟨c0, c1, c2, cf⟩ := H1.out.three
  have H2 := Lib.hid (H1.out.say true)
  clear c0 c1 H1
  go_wp2
  go_ret
  exact ⟨rfl, H2.out, (GrT.of_below BW.out).trans (GrT.set 2 _)⟩

set_option maxHeartbeats 4000000 in
theorem grPush_yes (h : IsGr w b M l A n c xs) (hn : (n : Int) < M) :
    Calls Try.prog 8 #[grP b, .int .i64 x] w fun e w' => e = .returned (.bool true) ∧ ∃ A' c', IsGr w' b M l A' (n + 1) c' (xs ++ [x]) ∧ GrT b A A' w w' := by
  obtain ⟨c0, c1, c2, cf⟩ := h.three
  have d : decide ((n : Int) ≥ M) = false := decide_eq_false (by omega)
  have d2 : decide (M ≤ (n : Int)) = false := decide_eq_false (by omega)
  have few : n ≤ 1048576 := by have := h.m1; omega
  have HH := Lib.hid h
  have m1 := h.m1
  clear h
  go_enter Try.func8, Try.ntmps8
  go_wp2_with fail
  go_big_quiet (fail)
  generalize hW : w.drewN _ = W1
  have bw : Below w.heap.size w W1 := hW ▸ below_drewN _ _
  have H1 := Lib.hid (HH.out.keep bw)
  have BW := Lib.hid bw
  clear hW bw c0 c1 c2 cf HH
  obtain ⟨c0, c1, c2, cf⟩ := H1.out.three
  have hlt := H1.out.lt
  have H2 := Lib.hid (H1.out.keep ((Below.refl _ _).alloc (Nat.le_refl _) (.cells #[.int .i64 x] 3)))
  have B2 := Lib.hid (BW.out.alloc BW.out.size (.cells #[.int .i64 x] 3))
  have e2 := Lib.hid (show (W1.alloc (.cells #[.int .i64 x] 3)).cell? ⟨W1.heap.size, 0, none⟩ = some (.int .i64 x) from (Blk.new W1 #[.int .i64 x] 3).cell 0)
  clear BW H1 c1 c2
  go_wp2_with (first
    | (at_builtin; (refine wpList_append_qu _ rfl _ _ rfl H2.out.row few x ⟨W1.heap.size, 0, none⟩ 1 rfl rfl e2.out ?_))
    | fail)
  intro A' c' w2 q g
  have hb2 : blkOf A ≠ some b := fun e => H2.out.ne e rfl
  have k2 := H2.out.blk.frm g.frm hb2
  have cf2 : w2.frozen? ⟨b, 0, none⟩ = false := k2.frozen 0
  have ex2 : w2.cell? ⟨b, 0, none⟩ = some (.slice A n c) := k2.cell 0
  have H3 := Lib.hid (show IsGr (w2.setCell ⟨b, 0, none⟩ (.slice A' (n + 1) c')) b M l A' (n + 1) c' (xs ++ [x]) from
    ⟨k2.set_ 0 _, q.frm (S := fun k => k = b) (Frm.setCell (S := fun k => k = b) (Frm.refl _ _) (p := ⟨b, 0, none⟩) (fun _ => rfl) _) (fun k hk e => by
      subst e
      rcases q.lies with ⟨rfl, _⟩ | ⟨g, off, cs, rfl, hb, _⟩
      · cases hk
      · cases hk
        exact Blk.ne_ k2 hb (by decide) rfl), H2.out.m0, m1, by omega⟩)
  have T := Lib.hid (show GrT b A A' w (w2.setCell ⟨b, 0, none⟩ (.slice A' (n + 1) c')) from
    ⟨((Frm.of_below B2.out : Frm (fun k => k = b ∨ blkOf A = some k) _ _).trans g.frm (fun i _ e => .inr e)).setCell (fun _ => .inl rfl) _,
     fun k hk => (g.at_ k hk).imp id fun h => Nat.le_trans B2.out.size h⟩)
  clear k2 q g H2 B2 e2 hb2 cf c0
  go_wp2
  go_ret
  exact ⟨rfl, A', c', H3.out, T.out⟩
end
end Go.Proofs.Ytbfgmpbbodlgiaa
