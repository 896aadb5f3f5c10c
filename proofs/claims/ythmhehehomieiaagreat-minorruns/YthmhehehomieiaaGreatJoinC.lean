/- Texts of the layers below, joined: BufA BufB BufC MvN CardA CardB RemA RemB RemC KpQ RemD QuB GrA ClQ GrB IntsQ GrC TbA TbB ConfA ConfB ConfC CoA CoB CoC CoE MnA MnB MnP. -/
import Derived.Test.YthmhehehomieiaaGreatJoinB
import Derived.Deep.QuietTactic
import Derived.BigQuiet
import Derived.BigRegion
import Derived.IntWalk
import Derived.StillTailTactics
import Derived.Deep.RegionHeld3
import Derived.Laws.EntriesVeiled
import Derived.Handy
import Derived.Deep.RegionWith

/- A buffer in memory; contracts of the program's row. -/
namespace Go.Proofs.YthmhehehomieiaaGreat
open Go.RowKit

/-- Block b is a buffer with room for M, whose slice (A, n, c) holds xs. -/
structure IsBuf (w : World) (b : Nat) (M : Int) (A : Option Addr) (n c : Nat) (xs : List Int) : Prop where
  blk : Blk w b #[.slice A n c, .int .i64 M] 191
  row : Qu w A n c xs
  m0 : 0 ≤ M
  m1 : M ≤ 1048576
  few : (n : Int) ≤ M

abbrev bfP (b : Nat) : Value := .pointer (some ⟨b, 0, none⟩)

/-- Only the buffer has turned; its slice lies where it lay, or in a new block. -/
structure BufT (b : Nat) (A A' : Option Addr) (w w' : World) : Prop where
  frm : Frm (fun k => k = b ∨ blkOf A = some k) w w'
  at_ : ∀ k, blkOf A' = some k → blkOf A = some k ∨ w.heap.size ≤ k

theorem BufT.of_below {b : Nat} {A : Option Addr} {w w' : World} (h : Below w.heap.size w w') : BufT b A A w w' := ⟨Frm.of_below h, fun _ hk => .inl hk⟩

section
variable {w w' : World} {b : Nat} {M : Int} {A : Option Addr} {n c : Nat} {xs : List Int}
theorem IsBuf.ne (h : IsBuf w b M A n c xs) {k : Nat} (hk : blkOf A = some k) : b ≠ k := by
  rcases h.row.lies with ⟨rfl, _⟩ | ⟨g, off, cs, rfl, hb, _⟩
  · cases hk
  · cases hk
    exact Blk.ne_ h.blk hb (by decide)
theorem IsBuf.lt (h : IsBuf w b M A n c xs) : b < w.heap.size := h.blk.lt
theorem IsBuf.keep (h : IsBuf w b M A n c xs) (f : Below w.heap.size w w') : IsBuf w' b M A n c xs := { h with blk := h.blk.keep f, row := h.row.keep f }
theorem IsBuf.frm {S : Nat → Prop} (h : IsBuf w b M A n c xs) (f : Frm S w w') (hb : ¬ S b) (hs : ∀ k, blkOf A = some k → ¬ S k) : IsBuf w' b M A n c xs := { h with blk := h.blk.frm f hb, row := h.row.frm f hs }
theorem IsBuf.two (h : IsBuf w b M A n c xs) : w.cell? ⟨b, 0, none⟩ = some (.slice A n c) ∧ w.cell? ⟨b, 1, none⟩ = some (.int .i64 M) ∧ (∀ i, w.frozen? ⟨b, i, none⟩ = false) := ⟨h.blk.cell 0, h.blk.cell 1, h.blk.frozen⟩
end

set_option maxHeartbeats 1000000 in
theorem rcount_any (b : Nat) (M : Int) (A : Option Addr) (n c : Nat) (xs : List Int) (w : World) (h : IsBuf w b M A n c xs) :
    Calls Tryz.prog 156 #[bfP b] w fun e w' => e = .returned (.int .i64 n) ∧ w = w' := by
  obtain ⟨c0, c1, cf⟩ := h.two
  clear h c1 cf
  go_enter Tryz.func156, Tryz.ntmps156
  go_wp2
  go_ret
  exact ⟨rfl, rfl⟩

set_option maxHeartbeats 1000000 in
theorem rtake_no (b : Nat) (M : Int) (A : Option Addr) (c : Nat) (w : World) (h : IsBuf w b M A 0 c []) :
    Calls Tryz.prog 177 #[bfP b] w fun e w' => e = .returned (.tuple #[.int .i64 0, .bool false]) ∧ w = w' := by
  obtain ⟨c0, c1, cf⟩ := h.two
  clear h c1 cf
  go_enter Tryz.func177, Tryz.ntmps177
  go_wp2
  go_ret2
  exact ⟨rfl, rfl⟩

/-- A buffer's slice is laid anew. -/
theorem IsBuf.set {w : World} {b : Nat} {M : Int} {A A' : Option Addr} {n c n' c' : Nat} {xs xs' : List Int} (h : IsBuf w b M A n c xs) (q : Qu w A' n' c' xs') (few : (n' : Int) ≤ M) :
    IsBuf (w.setCell ⟨b, 0, none⟩ (.slice A' n' c')) b M A' n' c' xs' :=
  ⟨h.blk.set_ 0 _, q.frm (S := fun k => k = b) (Frm.setCell (S := fun k => k = b) (Frm.refl _ _) (p := ⟨b, 0, none⟩) (fun _ => rfl) _) (fun k hk e => by
    subst e
    rcases q.lies with ⟨rfl, _⟩ | ⟨g, off, cs, rfl, hb, _⟩
    · cases hk
    · cases hk
      exact Blk.ne_ h.blk hb (by decide) rfl), h.m0, h.m1, few⟩

set_option maxHeartbeats 2000000 in
theorem rtake_yes (b : Nat) (M : Int) (A : Option Addr) (n c : Nat) (x : Int) (xs : List Int) (w : World) (h : IsBuf w b M A (n + 1) c (x :: xs)) :
    Calls Tryz.prog 177 #[bfP b] w fun e w' => e = .returned (.tuple #[.int .i64 x, .bool true]) ∧ ∃ A' c', IsBuf w' b M A' n c' xs ∧ BufT b A A' w w' := by
  obtain ⟨g, off, rfl, hg, hx, hf⟩ := h.row.at_ (by omega)
  have x0 := hx 0 x rfl
  rw [Nat.add_zero] at x0
  obtain ⟨c0, c1, cf⟩ := h.two
  have hne : b ≠ g := h.ne rfl
  have few := h.few
  have m1 := h.m1
  have le := h.row.le
  have cm := h.row.max
  unfold maxLen at cm
  by_cases hc : c = 1
  · subst hc
    obtain ⟨q, rfl⟩ := h.row.tail1
    have HB := Lib.hid (h.set (n' := 0) q (by omega))
    clear h q hx hf c1
    go_enter Tryz.func177, Tryz.ntmps177
    go_wp2
    go_ret2
    exact ⟨rfl, _, _, HB.out, (Frm.refl _ _).setCell (fun _ => .inl rfl) _, fun k hk => .inl hk⟩
  · have HB := Lib.hid (h.set (n' := n) (h.row.tail (by omega)) (by omega))
    clear h hx hf c1
    go_enter Tryz.func177, Tryz.ntmps177
    go_wp2
    go_ret2
    exact ⟨rfl, _, _, HB.out, (Frm.refl _ _).setCell (fun _ => .inl rfl) _, fun k hk => .inl hk⟩
end Go.Proofs.YthmhehehomieiaaGreat

/- Contracts of the program's row: put, all. -/
namespace Go.Proofs.YthmhehehomieiaaGreat
open Go.RowKit

set_option maxHeartbeats 2000000 in
theorem rput_no (b : Nat) (M : Int) (A : Option Addr) (n c : Nat) (xs : List Int) (x : Int) (w : World) (h : IsBuf w b M A n c xs) (hn : M ≤ n) :
    Calls Tryz.prog 166 #[bfP b, .int .i64 x] w fun e w' => e = .returned (.bool false) ∧ Below w.heap.size w w' := by
  obtain ⟨c0, c1, cf⟩ := h.two
  have d : decide ((n : Int) ≥ M) = true := decide_eq_true hn
  have d2 : decide (M ≤ (n : Int)) = true := decide_eq_true hn
  clear h
  go_enter Tryz.func166, Tryz.ntmps166
  go_wp2_with fail
  go_big_quiet (fail)
  go_wp2
  go_ret
  exact ⟨rfl, below_drewN _ _⟩

set_option maxHeartbeats 4000000 in
theorem rput_yes (b : Nat) (M : Int) (A : Option Addr) (n c : Nat) (xs : List Int) (x : Int) (w : World) (h : IsBuf w b M A n c xs) (hn : (n : Int) < M) :
    Calls Tryz.prog 166 #[bfP b, .int .i64 x] w fun e w' => e = .returned (.bool true) ∧ ∃ A' c', IsBuf w' b M A' (n + 1) c' (xs ++ [x]) ∧ BufT b A A' w w' := by
  obtain ⟨c0, c1, cf⟩ := h.two
  have d : decide ((n : Int) ≥ M) = false := decide_eq_false (by omega)
  have d2 : decide (M ≤ (n : Int)) = false := decide_eq_false (by omega)
  have few : n ≤ 1048576 := by have := h.m1; omega
  have HH := Lib.hid h
  have m1 := h.m1
  clear h
  go_enter Tryz.func166, Tryz.ntmps166
  go_wp2_with fail
  go_big_quiet (fail)
  generalize hW : w.drewN _ = W1
  have bw : Below w.heap.size w W1 := hW ▸ below_drewN _ _
  have H1 := Lib.hid (HH.out.keep bw)
  have BW := Lib.hid bw
  clear hW bw c0 c1 cf HH
  obtain ⟨c0, c1, cf⟩ := H1.out.two
  have hlt := H1.out.lt
  have H2 := Lib.hid (H1.out.keep ((Below.refl _ _).alloc (Nat.le_refl _) (.cells #[.int .i64 x] 3)))
  have B2 := Lib.hid (BW.out.alloc BW.out.size (.cells #[.int .i64 x] 3))
  have e2 := Lib.hid (show (W1.alloc (.cells #[.int .i64 x] 3)).cell? ⟨W1.heap.size, 0, none⟩ = some (.int .i64 x) from (Blk.new W1 #[.int .i64 x] 3).cell 0)
  clear BW H1 c1
  go_wp2_with (first
    | (at_builtin; (refine wpList_append_qu _ rfl _ _ rfl H2.out.row few x ⟨W1.heap.size, 0, none⟩ 1 rfl rfl e2.out ?_))
    | fail)
  intro A' c' w2 q g
  have hb2 : blkOf A ≠ some b := fun e => H2.out.ne e rfl
  have k2 := H2.out.blk.frm g.frm hb2
  have cf2 : w2.frozen? ⟨b, 0, none⟩ = false := k2.frozen 0
  have ex2 : w2.cell? ⟨b, 0, none⟩ = some (.slice A n c) := k2.cell 0
  have H3 := Lib.hid (show IsBuf (w2.setCell ⟨b, 0, none⟩ (.slice A' (n + 1) c')) b M A' (n + 1) c' (xs ++ [x]) from
    ⟨k2.set_ 0 _, q.frm (S := fun k => k = b) (Frm.setCell (S := fun k => k = b) (Frm.refl _ _) (p := ⟨b, 0, none⟩) (fun _ => rfl) _) (fun k hk e => by
      subst e
      rcases q.lies with ⟨rfl, _⟩ | ⟨g, off, cs, rfl, hb, _⟩
      · cases hk
      · cases hk
        exact Blk.ne_ k2 hb (by decide) rfl), H2.out.m0, m1, by omega⟩)
  have T := Lib.hid (show BufT b A A' w (w2.setCell ⟨b, 0, none⟩ (.slice A' (n + 1) c')) from
    ⟨((Frm.of_below B2.out : Frm (fun k => k = b ∨ blkOf A = some k) _ _).trans g.frm (fun i _ e => .inr e)).setCell (fun _ => .inl rfl) _,
     fun k hk => (g.at_ k hk).imp id fun h => Nat.le_trans B2.out.size h⟩)
  clear k2 q g H2 B2 e2 hb2 cf c0
  go_wp2
  go_ret
  exact ⟨rfl, A', c', H3.out, T.out⟩

end Go.Proofs.YthmhehehomieiaaGreat

/- Contracts of the program's buffer: New, Put, Take, Len, All; of none, too. -/
namespace Go.Proofs.YthmhehehomieiaaGreat
open Go.RowKit

set_option maxHeartbeats 1000000 in
theorem bfNew_any (m : Int) (w : World) :
    Calls Tryz.prog 143 #[.int .i64 m] w fun e w' => e = .returned (bfP w.heap.size) ∧ IsBuf w' w.heap.size (cutI m 0 1048576) none 0 0 [] ∧ Below w.heap.size w w' := by
  have key := Lib.hid (show ∀ K : Int, cutI m 0 1048576 = K → IsBuf (w.alloc (.cells #[.slice none 0 0, .int .i64 K] 191)) w.heap.size (cutI m 0 1048576) none 0 0 [] from by
    rintro _ rfl
    exact ⟨Blk.new _ _ _, Qu.nil _, (cutI_in (by decide)).1, (cutI_in (by decide)).2, (cutI_in (by decide)).1⟩)
  go_enter Tryz.func143, Tryz.ntmps143
  go_wp2
  all_goals
    go_ret
    exact ⟨rfl, key.out _ (by unfold cutI; split <;> (try split) <;> omega), (Below.refl _ _).alloc (Nat.le_refl _) _⟩

section
variable (b : Nat) (M : Int) (A : Option Addr) (n c : Nat) (xs : List Int) (x : Int) (w : World)

set_option maxHeartbeats 1000000 in
theorem bfPut_no (h : IsBuf w b M A n c xs) (hn : M ≤ n) :
    Calls Tryz.prog 148 #[bfP b, .int .i64 x] w fun e w' => e = .returned (.bool false) ∧ Below w.heap.size w w' := by
  have H := Lib.hid (rput_no b M A n c xs x w h hn)
  clear h hn
  go_enter Tryz.func148, Tryz.ntmps148
  go_wp2_with fail
  refine H.out.mono ?_
  rintro e w1 ⟨rfl, b1⟩
  have B := Lib.hid b1
  clear b1
  go_wp2
  go_ret
  exact ⟨rfl, B.out⟩

set_option maxHeartbeats 1000000 in
theorem bfPut_yes (h : IsBuf w b M A n c xs) (hn : (n : Int) < M) :
    Calls Tryz.prog 148 #[bfP b, .int .i64 x] w fun e w' => e = .returned (.bool true) ∧ ∃ A' c', IsBuf w' b M A' (n + 1) c' (xs ++ [x]) ∧ BufT b A A' w w' := by
  have H := Lib.hid (rput_yes b M A n c xs x w h hn)
  clear h hn
  go_enter Tryz.func148, Tryz.ntmps148
  go_wp2_with fail
  refine H.out.mono ?_
  rintro e w1 ⟨rfl, b1⟩
  have B := Lib.hid b1
  clear b1
  go_wp2
  go_ret
  exact ⟨rfl, B.out⟩

set_option maxHeartbeats 1000000 in
theorem bfPut_nil : Calls Tryz.prog 148 #[.pointer none, .int .i64 x] w fun e w' => e = .returned (.bool false) ∧ w = w' := by
  go_enter Tryz.func148, Tryz.ntmps148
  go_wp2
  go_ret
  exact ⟨rfl, rfl⟩

set_option maxHeartbeats 1000000 in
theorem bfTake_no (h : IsBuf w b M A 0 c []) :
    Calls Tryz.prog 173 #[bfP b] w fun e w' => e = .returned (.tuple #[.int .i64 0, .bool false]) ∧ w = w' := by
  have H := Lib.hid (rtake_no b M A c w h)
  clear h
  go_enter Tryz.func173, Tryz.ntmps173
  go_wp2_with fail
  refine H.out.mono ?_
  rintro e w1 ⟨rfl, rfl⟩
  go_wp2
  go_ret2
  exact ⟨rfl, rfl⟩

set_option maxHeartbeats 1000000 in
theorem bfTake_yes (h : IsBuf w b M A (n + 1) c (x :: xs)) :
    Calls Tryz.prog 173 #[bfP b] w fun e w' => e = .returned (.tuple #[.int .i64 x, .bool true]) ∧ ∃ A' c', IsBuf w' b M A' n c' xs ∧ BufT b A A' w w' := by
  have H := Lib.hid (rtake_yes b M A n c x xs w h)
  clear h
  go_enter Tryz.func173, Tryz.ntmps173
  go_wp2_with fail
  refine H.out.mono ?_
  rintro e w1 ⟨rfl, b1⟩
  have B := Lib.hid b1
  clear b1
  go_wp2
  go_ret2
  exact ⟨rfl, B.out⟩

set_option maxHeartbeats 1000000 in
theorem bfTake_nil : Calls Tryz.prog 173 #[.pointer none] w fun e w' => e = .returned (.tuple #[.int .i64 0, .bool false]) ∧ w = w' := by
  go_enter Tryz.func173, Tryz.ntmps173
  go_wp2
  go_ret2
  exact ⟨rfl, rfl⟩

set_option maxHeartbeats 1000000 in
theorem bfLen_any (h : IsBuf w b M A n c xs) :
    Calls Tryz.prog 128 #[bfP b] w fun e w' => e = .returned (.int .i64 n) ∧ w = w' := by
  have H := Lib.hid (rcount_any b M A n c xs w h)
  clear h
  go_enter Tryz.func128, Tryz.ntmps128
  go_wp2_with fail
  refine H.out.mono ?_
  rintro e w1 ⟨rfl, rfl⟩
  go_wp2
  go_ret
  exact ⟨rfl, rfl⟩

set_option maxHeartbeats 1000000 in
theorem bfLen_nil : Calls Tryz.prog 128 #[.pointer none] w fun e w' => e = .returned (.int .i64 0) ∧ w = w' := by
  go_enter Tryz.func128, Tryz.ntmps128
  go_wp2
  go_ret
  exact ⟨rfl, rfl⟩


end
end Go.Proofs.YthmhehehomieiaaGreat

/- What has turned where an object holds blocks of its own; of no program's own. -/
namespace Go.Proofs.YthmhehehomieiaaGreat
open Go.RowKit

/-- Of what was there only blocks of S have turned; what is held now was of S, or is new. -/
structure Mv (S S' : Nat → Prop) (w w' : World) : Prop where
  frm : Frm S w w'
  at_ : ∀ k, S' k → S k ∨ w.heap.size ≤ k

section
variable {S S' S'' : Nat → Prop} {w w' w'' : World}
theorem Mv.of_below (h : Below w.heap.size w w') : Mv S S w w' := ⟨Frm.of_below h, fun _ hk => .inl hk⟩
theorem Mv.trans (h : Mv S S' w w') (k : Mv S' S'' w' w'') : Mv S S'' w w'' :=
  ⟨h.frm.trans k.frm fun i hi e => (h.at_ i e).resolve_right (by omega), fun i e => (k.at_ i e).elim (h.at_ i) fun h2 => .inr (Nat.le_trans h.frm.size h2)⟩
theorem Mv.pre (f : Below w.heap.size w w') (k : Mv S S' w' w'') : Mv S S' w w'' := (Mv.of_below f).trans k
theorem Mv.post (h : Mv S S' w w') (f : Below w'.heap.size w' w'') : Mv S S' w w'' := h.trans (Mv.of_below f)
end
end Go.Proofs.YthmhehehomieiaaGreat

/- Marks in memory; contracts of the program's nearest, New, all, has, find. -/
namespace Go.Proofs.YthmhehehomieiaaGreat
open Go.RowKit

/-- Block b is marks for C words each of W, from F on; they lie in block mb. -/
structure IsTb (w : World) (b mb : Nat) (F W C : Int) (ms : List Bool) : Prop where
  blk : Blk w b #[.int .i64 F, .int .i64 W, .int .i64 C, .slice (some ⟨mb, 0, none⟩) ms.length ms.length] 195
  row : Blk w mb (ms.map Value.bool).toArray 4
  f0 : 0 ≤ F
  f1 : F ≤ 1048576
  w0 : 0 ≤ W
  w1 : W ≤ 1048576
  c0 : 1 ≤ C
  c1 : C ≤ 1048576
  len : (ms.length : Int) = (W + C - 1) / C

abbrev tbP (b : Nat) : Value := .pointer (some ⟨b, 0, none⟩)

/-- How many marks there are: no more than words, enough for all. -/
theorem marks_in {W C : Int} (w0 : 0 ≤ W) (w1 : W ≤ 1048576) (c0 : 1 ≤ C) :
    0 ≤ (W + C - 1) / C ∧ (W + C - 1) / C ≤ 1048576 ∧ W ≤ (W + C - 1) / C * C ∧ (W + C - 1) / C * C < W + C := by
  have e := Int.mul_ediv_add_emod (W + C - 1) C
  have m0 : 0 ≤ (W + C - 1) % C := Int.emod_nonneg _ (by omega)
  have m1 := Int.emod_lt_of_pos (W + C - 1) (show 0 < C by omega)
  have q0 : 0 ≤ (W + C - 1) / C := Int.ediv_nonneg (by omega) (by omega)
  rw [Int.mul_comm] at e
  have q1 : (W + C - 1) / C ≤ W := by
    by_cases h : W = 0
    · subst h
      have : (0 + C - 1) / C = 0 := Int.ediv_eq_zero_of_lt (by omega) (by omega)
      omega
    · have := Int.ediv_le_of_le_mul (a := W + C - 1) (b := W) (c := C) (by omega) (by
        have h2 : (W - 1) * 1 ≤ (W - 1) * C := Int.mul_le_mul_of_nonneg_left (by omega) (by omega)
        have h3 : W * C = (W - 1) * C + C := by rw [Int.sub_mul, Int.one_mul]; omega
        omega)
      omega
  generalize (W + C - 1) / C = q at *
  generalize q * C = qc at *
  omega

section
variable {w w' : World} {b mb : Nat} {F W C : Int} {ms : List Bool}
theorem IsTb.lt (h : IsTb w b mb F W C ms) : b < w.heap.size := h.blk.lt
theorem IsTb.lt2 (h : IsTb w b mb F W C ms) : mb < w.heap.size := h.row.lt
theorem IsTb.ne (h : IsTb w b mb F W C ms) : b ≠ mb := Blk.ne_ h.blk h.row (by decide)
theorem IsTb.keep (h : IsTb w b mb F W C ms) (f : Below w.heap.size w w') : IsTb w' b mb F W C ms := { h with blk := h.blk.keep f, row := h.row.keep f }
theorem IsTb.alloc (h : IsTb w b mb F W C ms) (o : Obj) : IsTb (w.alloc o) b mb F W C ms := { h with blk := h.blk.alloc o, row := h.row.alloc o }
theorem IsTb.set (h : IsTb w b mb F W C ms) (i : Nat) (x : Bool) : IsTb (w.setCell ⟨mb, i, none⟩ (.bool x)) b mb F W C (ms.set i x) :=
  { h with blk := by rw [List.length_set]; exact h.blk.far h.ne _
           row := h.row.setBool i x
           len := by rw [List.length_set]; exact h.len }
theorem IsTb.far (h : IsTb w b mb F W C ms) {p : Addr} (hb : b ≠ p.block) (hm : mb ≠ p.block) (v : Value) : IsTb (w.setCell p v) b mb F W C ms := { h with blk := h.blk.far hb v, row := h.row.far hm v }
theorem IsTb.few (h : IsTb w b mb F W C ms) : ms.length ≤ 1048576 := by have := marks_in h.w0 h.w1 h.c0; have := h.len; omega
theorem IsTb.four (h : IsTb w b mb F W C ms) :
    w.cell? ⟨b, 0, none⟩ = some (.int .i64 F) ∧ w.cell? ⟨b, 1, none⟩ = some (.int .i64 W) ∧ w.cell? ⟨b, 2, none⟩ = some (.int .i64 C) ∧ w.cell? ⟨b, 3, none⟩ = some (.slice (some ⟨mb, 0, none⟩) ms.length ms.length) ∧
    (∀ i, w.frozen? ⟨b, i, none⟩ = false) := ⟨h.blk.cell 0, h.blk.cell 1, h.blk.cell 2, h.blk.cell 3, h.blk.frozen⟩
/-- A place's mark. -/
theorem IsTb.at_ (h : IsTb w b mb F W C ms) {x : Int} (x0 : F ≤ x) (x1 : x < F + W) : 0 ≤ (x - F) / C ∧ (x - F) / C < ms.length := by
  have k := marks_in h.w0 h.w1 h.c0
  have c0 := h.c0
  refine ⟨Int.ediv_nonneg (by omega) (by omega), ?_⟩
  rw [h.len]
  exact Int.ediv_lt_of_lt_mul (by omega) (by omega)
end

set_option maxHeartbeats 1000000 in
theorem cnearest_any (n l : Int) (w : World) (hl : l ≤ 1048576) :
    Calls Tryz.prog 161 #[.int .i64 n, .int .i64 l] w fun e w' => e = .returned (.int .i64 (cutI n l 1048576)) ∧ w = w' := by
  by_cases h0 : n < l
  · have E := Lib.hid (show cutI n l 1048576 = l from if_pos h0)
    go_enter Tryz.func161, Tryz.ntmps161
    go_wp2
    go_ret
    refine ⟨?_, rfl⟩
    rw [E.out]
    congr 2
    repeat' split
    all_goals omega
  · by_cases h1 : 1048576 < n
    · have E := Lib.hid (show cutI n l 1048576 = 1048576 from by rw [cutI, if_neg h0, if_pos h1])
      go_enter Tryz.func161, Tryz.ntmps161
      go_wp2
      go_ret
      refine ⟨?_, rfl⟩
      rw [E.out]
      congr 2
      repeat' split
      all_goals omega
    · have E := Lib.hid (show cutI n l 1048576 = n from by rw [cutI, if_neg h0, if_neg h1])
      go_enter Tryz.func161, Tryz.ntmps161
      go_wp2
      go_ret
      refine ⟨?_, rfl⟩
      rw [E.out]
      congr 2
      repeat' split
      all_goals omega

set_option maxHeartbeats 1000000 in
theorem call_any (b mb : Nat) (F W C : Int) (ms : List Bool) (w : World) (h : IsTb w b mb F W C ms) :
    Calls Tryz.prog 157 #[tbP b] w fun e w' => e = .returned (.slice (some ⟨mb, 0, none⟩) ms.length ms.length) ∧ w = w' := by
  obtain ⟨c0, c1, c2, c3, cf⟩ := h.four
  clear c0 c1 c2 h
  go_enter Tryz.func157, Tryz.ntmps157
  go_wp2
  go_ret
  exact ⟨rfl, rfl⟩

set_option maxHeartbeats 1000000 in
theorem call_nil (w : World) : Calls Tryz.prog 157 #[.pointer none] w fun e w' => e = .returned (.slice none 0 0) ∧ w = w' := by
  go_enter Tryz.func157, Tryz.ntmps157
  go_wp2
  go_ret
  exact ⟨rfl, rfl⟩

def hasI (N : Nat) (n : Int) : Bool := decide (0 ≤ n) && decide (n < N)

theorem hasI_yes {N : Nat} {n : Int} (h0 : 0 ≤ n) (h1 : n < N) : hasI N n = true := by simp [hasI, h0, h1]
theorem hasI_no {N : Nat} {n : Int} (h : n < 0 ∨ N ≤ n) : hasI N n = false := by
  rw [hasI, Bool.and_eq_false_iff, decide_eq_false_iff_not, decide_eq_false_iff_not]; omega

set_option maxHeartbeats 1000000 in
theorem chas_any (b mb : Nat) (F W C : Int) (ms : List Bool) (n : Int) (w : World) (h : IsTb w b mb F W C ms) :
    Calls Tryz.prog 162 #[tbP b, .int .i64 n] w fun e w' => e = .returned (.bool (hasI ms.length n)) ∧ w = w' := by
  have HA := Lib.hid (call_any b mb F W C ms w h)
  clear h
  generalize ms.length = N at HA ⊢
  by_cases h0 : 0 ≤ n
  · have E := Lib.hid (show hasI N n = decide (n < (N : Int)) from by rw [hasI, decide_eq_true h0, Bool.true_and])
    go_enter Tryz.func162, Tryz.ntmps162
    go_wp2_with fail
    refine HA.out.mono ?_
    rintro e w1 ⟨rfl, rfl⟩
    go_wp2
    go_ret
    exact ⟨by rw [E.out]; rfl, rfl⟩
  · have E := Lib.hid (show hasI N n = false from by rw [hasI, decide_eq_false h0, Bool.false_and])
    go_enter Tryz.func162, Tryz.ntmps162
    go_wp2
    go_ret
    exact ⟨by rw [E.out]; rfl, rfl⟩

set_option maxHeartbeats 1000000 in
theorem chas_nil (n : Int) (w : World) : Calls Tryz.prog 162 #[.pointer none, .int .i64 n] w fun e w' => e = .returned (.bool false) ∧ w = w' := by
  by_cases h0 : 0 ≤ n
  · have h1 : decide (n < 0) = false := decide_eq_false (by omega)
    go_enter Tryz.func162, Tryz.ntmps162
    go_wp2_with fail
    refine (call_nil w).mono ?_
    rintro e w1 ⟨rfl, rfl⟩
    go_wp2
    go_ret
    exact ⟨rfl, rfl⟩
  · go_enter Tryz.func162, Tryz.ntmps162
    go_wp2
    go_ret
    exact ⟨rfl, rfl⟩

set_option maxHeartbeats 2000000 in
theorem cfind_yes (b mb : Nat) (F W C : Int) (ms : List Bool) (x : Int) (j : Nat) (w : World) (h : IsTb w b mb F W C ms) (x0 : F ≤ x) (x1 : x < F + W) (hj : (x - F) / C = j) :
    Calls Tryz.prog 167 #[tbP b, .int .i64 x] w fun e w' => e = .returned (.tuple #[.int .i64 j, .bool true]) ∧ Below w.heap.size w w' := by
  obtain ⟨c0, c1, c2, c3, cf⟩ := h.four
  have f0 := h.f0
  have f1 := h.f1
  have w1 := h.w1
  have k0 := h.c0
  have at0 := h.at_ x0 x1
  have few := h.few
  have hs : IntKind.i64.wrap (x - F) = x - F := IntWalk.i64_in _ (by omega)
  have hd : (x - F).tdiv C = j := by rw [← hj]; exact Int.tdiv_eq_ediv_of_nonneg (by omega)
  rw [hj] at at0
  have hw : IntKind.i64.wrap (j : Int) = j := IntWalk.i64_in _ (by omega)
  clear hj
  have d0 : decide (x < F) = false := decide_eq_false (by omega)
  have d1 : decide (x - F ≥ W) = false := decide_eq_false (by omega)
  have d2 : decide (W ≤ x - F) = false := decide_eq_false (by omega)
  clear h c3
  go_enter Tryz.func167, Tryz.ntmps167
  go_wp2_with fail
  go_big_quiet (fail)
  go_wp2_with fail
  go_big_quiet (fail)
  go_wp2
  go_ret2
  exact ⟨rfl, below_trans (below_drewN _ _) (below_drewN _ _)⟩

set_option maxHeartbeats 2000000 in
theorem cfind_no (b mb : Nat) (F W C : Int) (ms : List Bool) (x : Int) (w : World) (h : IsTb w b mb F W C ms) (hx : x < F ∨ F + W ≤ x) (hi : x ≤ 9223372036854775807) :
    Calls Tryz.prog 167 #[tbP b, .int .i64 x] w fun e w' => e = .returned (.tuple #[.int .i64 0, .bool false]) ∧ Below w.heap.size w w' := by
  obtain ⟨c0, c1, c2, c3, cf⟩ := h.four
  have f0 := h.f0
  have f1 := h.f1
  have w0 := h.w0
  have w1 := h.w1
  clear h c3 c2
  by_cases x0 : x < F
  · have d0 : decide (x < F) = true := decide_eq_true x0
    clear hx
    go_enter Tryz.func167, Tryz.ntmps167
    go_wp2_with fail
    go_big_quiet (fail)
    go_wp2
    go_ret2
    exact ⟨rfl, below_drewN _ _⟩
  · have x1 : F + W ≤ x := by omega
    have hs : IntKind.i64.wrap (x - F) = x - F := IntWalk.i64_in _ (by omega)
    have d0 : decide (x < F) = false := decide_eq_false x0
    have d1 : decide (x - F ≥ W) = true := decide_eq_true (by omega)
    have d2 : decide (W ≤ x - F) = true := decide_eq_true (by omega)
    clear hx
    go_enter Tryz.func167, Tryz.ntmps167
    go_wp2_with fail
    go_big_quiet (fail)
    go_wp2
    go_ret2
    exact ⟨rfl, below_drewN _ _⟩

set_option maxHeartbeats 2000000 in
theorem cfind_nil (x : Int) (w : World) :
    Calls Tryz.prog 167 #[.pointer none, .int .i64 x] w fun e w' => e = .returned (.tuple #[.int .i64 0, .bool false]) ∧ Below w.heap.size w w' := by
  go_enter Tryz.func167, Tryz.ntmps167
  go_wp2_with fail
  go_big_quiet (fail)
  go_wp2
  go_ret2
  exact ⟨rfl, below_drewN _ _⟩

set_option maxHeartbeats 4000000 in
theorem cNew_any (f n c : Int) (w : World) :
    Calls Tryz.prog 140 #[.int .i64 f, .int .i64 n, .int .i64 c] w fun e w' => ∃ b mb, e = .returned (tbP b) ∧ w.heap.size ≤ b ∧ w.heap.size ≤ mb ∧
      (∃ N : Nat, (N : Int) = (cutI n 0 1048576 + cutI c 1 1048576 - 1) / cutI c 1 1048576 ∧ IsTb w' b mb (cutI f 0 1048576) (cutI n 0 1048576) (cutI c 1 1048576) (List.replicate N false)) ∧ Below w.heap.size w w' := by
  have hF : ∀ v, _ := fun v => cnearest_any f 0 v (by omega)
  have hN := cnearest_any n 0 w (by omega)
  have hC := cnearest_any c 1 w (by omega)
  have iF := cutI_in (n := f) (l := 0) (m := 1048576) (by omega)
  have iN := cutI_in (n := n) (l := 0) (m := 1048576) (by omega)
  have iC := cutI_in (n := c) (l := 1) (m := 1048576) (by omega)
  obtain ⟨F, eF⟩ : ∃ F, cutI f 0 1048576 = F := ⟨_, rfl⟩
  obtain ⟨W, eW⟩ : ∃ W, cutI n 0 1048576 = W := ⟨_, rfl⟩
  obtain ⟨C, eC⟩ : ∃ C, cutI c 1 1048576 = C := ⟨_, rfl⟩
  rw [eF] at hF iF ⊢
  rw [eW] at hN iN ⊢
  rw [eC] at hC iC ⊢
  have HF := Lib.hid hF
  have HN := Lib.hid hN
  have HC := Lib.hid hC
  obtain ⟨f0, f1⟩ := iF
  obtain ⟨n0, n1⟩ := iN
  obtain ⟨c0, c1⟩ := iC
  clear hF hN hC eF eW eC
  have mi := marks_in n0 n1 c0
  have hd : (W + C - 1).tdiv C = (W + C - 1) / C := Int.tdiv_eq_ediv_of_nonneg (by omega)
  obtain ⟨Q, hQ⟩ : ∃ Q, (W + C - 1) / C = Q := ⟨_, rfl⟩
  rw [hQ] at mi hd ⊢
  obtain ⟨q0, q1, q2, q3⟩ := mi
  have HQ := Lib.hid hQ
  clear hQ q2 q3
  have hmk := run_make_bool Q q0 (by omega)
  have s1 : IntKind.i64.wrap (W + C) = W + C := IntWalk.i64_in _ (by omega)
  have s2 : IntKind.i64.wrap (W + C - 1) = W + C - 1 := IntWalk.i64_in _ (by omega)
  have s3 : IntKind.i64.wrap Q = Q := IntWalk.i64_in _ (by omega)
  have cz : ¬ C = 0 := by omega
  have cz2 : (C == 0) = false := by simp; omega
  go_enter Tryz.func140, Tryz.ntmps140
  go_wp2_with fail
  refine HN.out.mono ?_
  rintro e w1 ⟨rfl, rfl⟩
  go_wp2_with fail
  refine HC.out.mono ?_
  rintro e w1 ⟨rfl, rfl⟩
  go_wp2_with fail
  go_region_held3 (fun _ => True) (exact trivial)
    ((go_at_call 161; refine (HF.out _).mono ?_; rintro e v1 ⟨rfl, rfl⟩))
  all_goals
    go_wp2
    go_ret
    refine ⟨w.heap.size + 1, w.heap.size, rfl, by omega, Nat.le_refl _, ⟨Q.toNat, by omega, ⟨?_, ?_, f0, f1, n0, n1, c0, c1, ?_⟩⟩, (((Below.refl _ _).alloc (Nat.le_refl _) _).alloc (by simp) _).drew⟩
    · rw [List.length_replicate]
      have h := Blk.new (w.alloc (.cells (Array.replicate Q.toNat (Value.bool false)) 4)) #[.int .i64 F, .int .i64 W, .int .i64 C, .slice (some ⟨w.heap.size, 0, none⟩) Q.toNat Q.toNat] 195
      simpa using h.drew
    · have h := ((Blk.new w (Array.replicate Q.toNat (Value.bool false)) 4).alloc (.cells #[.int .i64 F, .int .i64 W, .int .i64 C, .slice (some ⟨w.heap.size, 0, none⟩) Q.toNat Q.toNat] 195)).drew
      simpa using h
    · rw [List.length_replicate, HQ.out]; omega
end Go.Proofs.YthmhehehomieiaaGreat

/- Contracts of the program's Mark, Marked, Clear, First, Part, Count. -/
namespace Go.Proofs.YthmhehehomieiaaGreat
open Go.RowKit

/-- Of what was there only the marks have turned: they are ms now. -/
structure Tn (b mb : Nat) (F W C : Int) (ms : List Bool) (w w' : World) : Prop where
  is : IsTb w' b mb F W C ms
  frm : Frm (· = mb) w w'

section
variable {w w' w'' : World} {b mb : Nat} {F W C : Int} {ms ks : List Bool}
theorem Tn.pre (f : Below w.heap.size w w') (k : Tn b mb F W C ms w' w'') : Tn b mb F W C ms w w'' := ⟨k.is, (Frm.of_below f).trans k.frm fun _ _ e => e⟩
theorem Tn.of_set {w1 : World} (h : IsTb w1 b mb F W C ms) (f : Below w.heap.size w w1) (i : Nat) (x : Bool) : Tn b mb F W C (ms.set i x) w (w1.setCell ⟨mb, i, none⟩ (.bool x)) :=
  ⟨h.set i x, (Frm.of_below (S := fun k => k = mb) f).setCell (p := ⟨mb, i, none⟩) (fun _ => rfl) _⟩
theorem Tn.keep {v : World} (k : Tn b mb F W C ms w w') (f : Below w'.heap.size w' v) : Tn b mb F W C ms w v := ⟨k.is.keep f, k.frm.trans (S' := fun _ => False) (Frm.of_below f) fun _ _ e => e.elim⟩
end

section
variable (b mb : Nat) (F W C : Int) (ms : List Bool) (w : World)

set_option maxHeartbeats 2000000 in
theorem cMark_yes (x : Int) (j : Nat) (h : IsTb w b mb F W C ms) (x0 : F ≤ x) (x1 : x < F + W) (hj : (x - F) / C = j) :
    Calls Tryz.prog 149 #[tbP b, .int .i64 x] w fun e w' => e = .returned (.bool true) ∧ Tn b mb F W C (ms.set j true) w w' := by
  have HF := Lib.hid (cfind_yes b mb F W C ms x j w h x0 x1 hj)
  have at0 := h.at_ x0 x1
  rw [hj] at at0
  have HH := Lib.hid h
  obtain ⟨_, at1⟩ := at0
  have few := h.few
  clear h hj
  go_enter Tryz.func149, Tryz.ntmps149
  go_wp2_with fail
  refine HF.out.mono ?_
  rintro e w1 ⟨rfl, b1⟩
  have hi := HH.out.keep b1
  obtain ⟨c0, c1, c2, c3, cf⟩ := hi.four
  have cm := hi.row.bools (i := j) (x := ms[j]'(by omega)) (List.getElem?_eq_getElem _)
  have cfm := hi.row.frozen
  have HI := Lib.hid hi
  have HB := Lib.hid b1
  clear hi c0 c1 c2 b1
  go_wp2
  go_ret
  exact ⟨rfl, Tn.of_set HI.out HB.out _ _⟩

set_option maxHeartbeats 2000000 in
theorem cMark_no (x : Int) (h : IsTb w b mb F W C ms) (hx : x < F ∨ F + W ≤ x) (hi : x ≤ 9223372036854775807) :
    Calls Tryz.prog 149 #[tbP b, .int .i64 x] w fun e w' => e = .returned (.bool false) ∧ Below w.heap.size w w' := by
  have HF := Lib.hid (cfind_no b mb F W C ms x w h hx hi)
  clear h hx hi
  go_enter Tryz.func149, Tryz.ntmps149
  go_wp2_with fail
  refine HF.out.mono ?_
  rintro e w1 ⟨rfl, b1⟩
  go_wp2
  go_ret
  exact ⟨rfl, b1⟩

set_option maxHeartbeats 2000000 in
theorem cMark_nil (x : Int) :
    Calls Tryz.prog 149 #[.pointer none, .int .i64 x] w fun e w' => e = .returned (.bool false) ∧ Below w.heap.size w w' := by
  go_enter Tryz.func149, Tryz.ntmps149
  go_wp2_with fail
  refine (cfind_nil x w).mono ?_
  rintro e w1 ⟨rfl, b1⟩
  go_wp2
  go_ret
  exact ⟨rfl, b1⟩




set_option maxHeartbeats 2000000 in
theorem cClear_yes (j : Nat) (v : Bool) (h : IsTb w b mb F W C ms) (hv : ms[j]? = some v) :
    Calls Tryz.prog 175 #[tbP b, .int .i64 j] w fun e w' => e = .returned (.bool v) ∧ Tn b mb F W C (ms.set j false) w w' := by
  have at1 : (j : Int) < ms.length := by have := (List.getElem?_eq_some_iff.1 hv).1; omega
  have HF := chas_any b mb F W C ms j w h
  rw [hasI_yes (by omega) at1] at HF
  have HF := Lib.hid HF
  obtain ⟨c0, c1, c2, c3, cf⟩ := h.four
  have cm := h.row.bools hv
  have cfm := h.row.frozen
  have HH := Lib.hid h
  have ne := h.ne
  have few := h.few
  clear h hv c0 c1 c2
  go_enter Tryz.func175, Tryz.ntmps175
  go_wp2_with fail
  refine HF.out.mono ?_
  rintro e w1 ⟨rfl, rfl⟩
  go_wp2
  go_ret
  exact ⟨rfl, Tn.of_set HH.out (Below.refl _ _) _ _⟩

set_option maxHeartbeats 2000000 in
theorem cClear_no (n : Int) (h : IsTb w b mb F W C ms) (hn : n < 0 ∨ ms.length ≤ n) :
    Calls Tryz.prog 175 #[tbP b, .int .i64 n] w fun e w' => e = .returned (.bool false) ∧ w = w' := by
  have HF := chas_any b mb F W C ms n w h
  rw [hasI_no hn] at HF
  have HF := Lib.hid HF
  clear h hn
  go_enter Tryz.func175, Tryz.ntmps175
  go_wp2_with fail
  refine HF.out.mono ?_
  rintro e w1 ⟨rfl, rfl⟩
  go_wp2
  go_ret
  exact ⟨rfl, rfl⟩

set_option maxHeartbeats 2000000 in
theorem cClear_nil (n : Int) : Calls Tryz.prog 175 #[.pointer none, .int .i64 n] w fun e w' => e = .returned (.bool false) ∧ w = w' := by
  go_enter Tryz.func175, Tryz.ntmps175
  go_wp2_with fail
  refine (chas_nil n w).mono ?_
  rintro e w1 ⟨rfl, rfl⟩
  go_wp2
  go_ret
  exact ⟨rfl, rfl⟩

/-- The first mark from n on that is set. -/
def FirstA (ms : List Bool) (n : Int) (r : Int) (ok : Bool) : Prop :=
  (∃ j : Nat, r = j ∧ ok = true ∧ n ≤ j ∧ ms[j]? = some true ∧ ∀ i : Nat, n ≤ i → i < j → ms[i]? = some false) ∨ (r = 0 ∧ ok = false ∧ ∀ i : Nat, n ≤ i → ms[i]? ≠ some true)

theorem FirstA.one {ms : List Bool} {n r r' : Int} {ok ok' : Bool} (h : FirstA ms n r ok) (k : FirstA ms n r' ok') : r = r' ∧ ok = ok' := by
  rcases h with ⟨j, rfl, rfl, a, b, c⟩ | ⟨rfl, rfl, c⟩
  · rcases k with ⟨j', rfl, rfl, a', b', c'⟩ | ⟨rfl, rfl, c'⟩
    · rcases Nat.lt_trichotomy j j' with l | l | l
      · have := c' j a l; rw [b] at this; cases this
      · exact ⟨by rw [l], rfl⟩
      · have := c j' a' l; rw [b'] at this; cases this
    · exact absurd b (c' j a)
  · rcases k with ⟨j', rfl, rfl, a', b', c'⟩ | ⟨rfl, rfl, c'⟩
    · exact absurd b' (c j' a')
    · exact ⟨rfl, rfl⟩

set_option maxHeartbeats 4000000 in
theorem cFirst_any (n : Int) (h : IsTb w b mb F W C ms) (hn : n ≤ 9223372036854775807) :
    Calls Tryz.prog 174 #[tbP b, .int .i64 n] w fun e w' => ∃ r ok, e = .returned (.tuple #[.int .i64 r, .bool ok]) ∧ FirstA ms n r ok ∧ w = w' := by
  obtain ⟨k, hk, hk0, hk1⟩ : ∃ k : Nat, (if n ≤ 0 then 0 else n) = (k : Int) ∧ (n ≤ k) ∧ ∀ i : Nat, n ≤ i → k ≤ i := ⟨n.toNat, by split <;> omega, by omega, fun i hi => by omega⟩
  have hk2 : (if n < 0 then 0 else n) = (k : Int) := by rw [← hk]; split <;> split <;> omega
  have hk3 : (if 0 < n then n else 0) = (k : Int) := by rw [← hk]; split <;> split <;> omega
  have hk4 : (if 0 ≤ n then n else 0) = (k : Int) := by rw [← hk]; split <;> split <;> omega
  have hb : (k : Int) ≤ 9223372036854775807 := by omega
  have few := h.few
  have HH := Lib.hid h
  have HK := Lib.hid hk0
  have HL := Lib.hid hk1
  obtain ⟨c0, c1, c2, c3, cf⟩ := h.four
  clear h c0 c1 c2 hk0 hk1
  go_enter Tryz.func174, Tryz.ntmps174
  go_wp2_with fail
  go_loopw [6] (fun s wr => ∃ j : Nat, k ≤ j ∧ (j : Int) ≤ 9223372036854775807 ∧ s = .int .i64 j ∧ Hid (∀ i : Nat, k ≤ i → i < j → ms[i]? = some false) ∧ w = wr) (fun s _ => ms.length - (intOf s).toNat)
  case atStart => exact ⟨k, Nat.le_refl _, hb, rfl, Lib.hid (fun i h1 h2 => by omega), rfl⟩
  case round =>
    obtain ⟨j, kj, hj, rfl, HT, rfl⟩ := hrel
    have HF := chas_any b mb F W C ms j w HH.out
    by_cases hlt : j < ms.length
    · rw [hasI_yes (by omega) (by omega)] at HF
      have HF := Lib.hid HF
      obtain ⟨x, hx⟩ : ∃ x, ms[j]? = some x := ⟨_, List.getElem?_eq_getElem hlt⟩
      have cm := HH.out.row.bools hx
      have HX := Lib.hid hx
      clear hx
      cases x
      · have N1 := Lib.hid (show ∀ i : Nat, k ≤ i → i < j + 1 → ms[i]? = some false from fun i h1 h2 => by
          by_cases e : i = j
          · subst e; exact HX.out
          · exact HT.out i h1 (by omega))
        go_wp2_with fail
        refine HF.out.mono ?_
        rintro e w1 ⟨rfl, rfl⟩
        go_wp2
        go_roundw
        case rel => exact ⟨j + 1, by omega, by omega, by go_num, N1, by trivial⟩
        case measure => simp [intOf]; omega
      · go_wp2_with fail
        refine HF.out.mono ?_
        rintro e w1 ⟨rfl, rfl⟩
        go_wp2
        go_ret2
        exact ⟨_, _, rfl, Or.inl ⟨j, rfl, rfl, by have := HK.out; omega, HX.out, fun i h1 h2 => HT.out i (HL.out i h1) h2⟩, rfl⟩
    · rw [hasI_no (by omega)] at HF
      have HF := Lib.hid HF
      go_wp2_with fail
      refine HF.out.mono ?_
      rintro e w1 ⟨rfl, rfl⟩
      go_wp2
      go_ret2
      refine ⟨_, _, rfl, Or.inr ⟨rfl, rfl, fun i h1 h2 => ?_⟩, rfl⟩
      have h3 := (List.getElem?_eq_some_iff.1 h2).1
      have h4 := HT.out i (HL.out i h1) (by omega)
      rw [h2] at h4
      cases h4

set_option maxHeartbeats 4000000 in
theorem cFirst_nil (n : Int) : Calls Tryz.prog 174 #[.pointer none, .int .i64 n] w fun e w' => e = .returned (.tuple #[.int .i64 0, .bool false]) ∧ w = w' := by
  have HN := Lib.hid (fun k => chas_nil k w)
  obtain ⟨k, hk⟩ : ∃ k : Int, (if n ≤ 0 then 0 else n) = k := ⟨_, rfl⟩
  have hk2 : (if n < 0 then 0 else n) = k := by rw [← hk]; split <;> split <;> omega
  have hk3 : (if 0 < n then n else 0) = k := by rw [← hk]; split <;> split <;> omega
  have hk4 : (if 0 ≤ n then n else 0) = k := by rw [← hk]; split <;> split <;> omega
  go_enter Tryz.func174, Tryz.ntmps174
  go_wp2_with fail
  go_loopw [6] (fun s wr => (∃ k, s = .int .i64 k) ∧ w = wr) (fun s _ => 0)
  case atStart => exact ⟨⟨_, rfl⟩, rfl⟩
  case round =>
    obtain ⟨⟨k, rfl⟩, rfl⟩ := hrel
    go_wp2_with fail
    refine (HN.out k).mono ?_
    rintro e w1 ⟨rfl, rfl⟩
    go_wp2
    go_ret2
    exact ⟨rfl, rfl⟩

/-- Where a mark's part begins: within the words. -/
theorem IsTb.part {w : World} {b mb : Nat} {F W C : Int} {ms : List Bool} (h : IsTb w b mb F W C ms) {n : Int} (n0 : 0 ≤ n) (n1 : n < ms.length) : 0 ≤ n * C ∧ n * C < W := by
  have k := marks_in h.w0 h.w1 h.c0
  have l := h.len
  have c0 := h.c0
  refine ⟨Int.mul_nonneg n0 (by omega), ?_⟩
  rw [← l] at k
  have h1 : (n + 1) * C ≤ ms.length * C := Int.mul_le_mul_of_nonneg_right (by omega) (by omega)
  rw [Int.add_mul, Int.one_mul] at h1
  omega

/-- Where it ends. -/
def endI (F W C n : Int) : Int := if F + n * C + C > F + W then F + W else F + n * C + C

set_option maxHeartbeats 4000000 in
theorem cPart_yes (n : Int) (h : IsTb w b mb F W C ms) (n0 : 0 ≤ n) (n1 : n < ms.length) :
    Calls Tryz.prog 141 #[tbP b, .int .i64 n] w fun e w' => e = .returned (.tuple #[.int .i64 (F + n * C), .int .i64 (endI F W C n)]) ∧ Below w.heap.size w w' := by
  have HF := chas_any b mb F W C ms n w h
  rw [hasI_yes n0 n1] at HF
  have HF := Lib.hid HF
  have hp := h.part n0 n1
  obtain ⟨c0, c1, c2, c3, cf⟩ := h.four
  have f0 := h.f0
  have f1 := h.f1
  have w1 := h.w1
  have k0 := h.c0
  have k1 := h.c1
  have HE := Lib.hid (show endI F W C n = if F + n * C + C > F + W then F + W else F + n * C + C from rfl)
  obtain ⟨L, hL⟩ : ∃ L, n * C = L := ⟨_, rfl⟩
  rw [hL] at hp HE ⊢
  obtain ⟨p0, p1⟩ := hp
  have s0 : IntKind.i64.wrap L = L := IntWalk.i64_in _ (by omega)
  have s1 : IntKind.i64.wrap (F + L) = F + L := IntWalk.i64_in _ (by omega)
  have s2 : IntKind.i64.wrap (L + C) = L + C := IntWalk.i64_in _ (by omega)
  clear h c3 n0 n1
  by_cases hm : W ≤ L + C
  · have HM := Lib.hid (show endI F W C n = F + W by rw [HE.out]; split <;> omega)
    have s3 : IntKind.i64.wrap (F + W) = F + W := IntWalk.i64_in _ (by omega)
    have m1 : (if L + C ≤ W then L + C else W) = W := by split <;> omega
    have m2 : (if L + C < W then L + C else W) = W := by split <;> omega
    have m3 : (if W < L + C then W else L + C) = W := by split <;> omega
    have m4 : (if W ≤ L + C then W else L + C) = W := by split <;> omega
    rw [HM.out]
    clear HE
    go_enter Tryz.func141, Tryz.ntmps141
    go_wp2_with fail
    refine HF.out.mono ?_
    rintro e w1 ⟨rfl, rfl⟩
    go_wp2_with fail
    go_region
    go_wp2
    go_ret2
    exact ⟨rfl, below_drew _⟩
  · have HM := Lib.hid (show endI F W C n = F + (L + C) by rw [HE.out]; split <;> omega)
    have s3 : IntKind.i64.wrap (F + (L + C)) = F + (L + C) := IntWalk.i64_in _ (by omega)
    have m1 : (if L + C ≤ W then L + C else W) = L + C := by split <;> omega
    have m2 : (if L + C < W then L + C else W) = L + C := by split <;> omega
    have m3 : (if W < L + C then W else L + C) = L + C := by split <;> omega
    have m4 : (if W ≤ L + C then W else L + C) = L + C := by split <;> omega
    rw [HM.out]
    clear HE
    go_enter Tryz.func141, Tryz.ntmps141
    go_wp2_with fail
    refine HF.out.mono ?_
    rintro e w1 ⟨rfl, rfl⟩
    go_wp2_with fail
    go_region
    go_wp2
    go_ret2
    exact ⟨rfl, below_drew _⟩

set_option maxHeartbeats 4000000 in
theorem cPart_no (n : Int) (h : IsTb w b mb F W C ms) (hn : n < 0 ∨ ms.length ≤ n) :
    Calls Tryz.prog 141 #[tbP b, .int .i64 n] w fun e w' => e = .returned (.tuple #[.int .i64 0, .int .i64 0]) ∧ w = w' := by
  have HF := chas_any b mb F W C ms n w h
  rw [hasI_no hn] at HF
  have HF := Lib.hid HF
  clear h hn
  go_enter Tryz.func141, Tryz.ntmps141
  go_wp2_with fail
  refine HF.out.mono ?_
  rintro e w1 ⟨rfl, rfl⟩
  go_wp2
  go_ret2
  exact ⟨rfl, rfl⟩

set_option maxHeartbeats 4000000 in
theorem cPart_nil (n : Int) : Calls Tryz.prog 141 #[.pointer none, .int .i64 n] w fun e w' => e = .returned (.tuple #[.int .i64 0, .int .i64 0]) ∧ w = w' := by
  go_enter Tryz.func141, Tryz.ntmps141
  go_wp2_with fail
  refine (chas_nil n w).mono ?_
  rintro e w1 ⟨rfl, rfl⟩
  go_wp2
  go_ret2
  exact ⟨rfl, rfl⟩

/-- How many of the first n are set. -/
def cntI (ms : List Bool) (n : Nat) : Nat := (ms.take n).count true

theorem cntI_next {ms : List Bool} {n : Nat} {x : Bool} (h : ms[n]? = some x) : cntI ms (n + 1) = cntI ms n + (if x then 1 else 0) := by
  unfold cntI
  rw [List.take_add_one, h, List.count_append]
  cases x <;> simp

theorem cntI_le (ms : List Bool) (n : Nat) : cntI ms n ≤ n := by
  unfold cntI
  have := List.count_le_length (a := true) (l := ms.take n)
  rw [List.length_take] at this
  omega

theorem cntI_all (ms : List Bool) : cntI ms ms.length = ms.count true := by unfold cntI; rw [List.take_length]

set_option maxHeartbeats 4000000 in
theorem cCount_any (h : IsTb w b mb F W C ms) :
    Calls Tryz.prog 129 #[tbP b] w fun e w' => e = .returned (.int .i64 (ms.count true : Nat)) ∧ w = w' := by
  have HA := Lib.hid (call_any b mb F W C ms w h)
  have few := h.few
  have HH := Lib.hid h
  have HN := Lib.hid (cntI_all ms)
  clear h
  go_enter Tryz.func129, Tryz.ntmps129
  go_wp2_with fail
  refine HA.out.mono ?_
  rintro e w1 ⟨rfl, rfl⟩
  go_wp2_with fail
  go_loopw [3, 9] (fun s3 s wr => ∃ j c : Nat, j ≤ ms.length ∧ s = .int .i64 j ∧ s3 = .int .i64 c ∧ c ≤ j ∧ Hid (cntI ms j = c) ∧ w = wr) (fun _ s _ => ms.length - (intOf s).toNat)
  case atStart => exact ⟨0, 0, Nat.zero_le _, rfl, rfl, Nat.le_refl _, Lib.hid (by simp [cntI]), rfl⟩
  case round =>
    obtain ⟨j, c, hj, rfl, rfl, hc, HT, rfl⟩ := hrel
    by_cases hlt : j < ms.length
    · obtain ⟨x, hx⟩ : ∃ x, ms[j]? = some x := ⟨_, List.getElem?_eq_getElem hlt⟩
      have cm := HH.out.row.bools hx
      have HX := Lib.hid hx
      clear hx
      cases x
      · have N1 := Lib.hid (show cntI ms (j + 1) = c by rw [cntI_next HX.out, HT.out]; rfl)
        go_wp2
        go_roundw
        case rel => exact ⟨j + 1, c, by omega, by go_num, rfl, by omega, N1, by trivial⟩
        case measure => simp [intOf]; omega
      · have N1 := Lib.hid (show cntI ms (j + 1) = c + 1 by rw [cntI_next HX.out, HT.out]; rfl)
        go_wp2
        go_roundw
        case rel => exact ⟨j + 1, c + 1, by omega, by go_num, by go_num, by omega, N1, by trivial⟩
        case measure => simp [intOf]; omega
    · obtain rfl : j = ms.length := by omega
      have E := Lib.hid (show ms.count true = c by rw [← HN.out, HT.out])
      go_wp2
      go_ret
      exact ⟨ret_int (by rw [E.out]), rfl⟩

set_option maxHeartbeats 4000000 in
theorem cCount_nil : Calls Tryz.prog 129 #[.pointer none] w fun e w' => e = .returned (.int .i64 0) ∧ w = w' := by
  go_enter Tryz.func129, Tryz.ntmps129
  go_wp2_with fail
  refine (call_nil w).mono ?_
  rintro e w1 ⟨rfl, rfl⟩
  go_wp2_with fail
  go_loopw [3, 9] (fun s3 s wr => s = .int .i64 0 ∧ s3 = .int .i64 0 ∧ w = wr) (fun _ s _ => 0)
  case atStart => exact ⟨rfl, rfl, rfl⟩
  case round =>
    obtain ⟨rfl, rfl, rfl⟩ := hrel
    go_wp2
    go_ret
    exact ⟨rfl, rfl⟩
end
end Go.Proofs.YthmhehehomieiaaGreat

/- A side of the program's set: its buffer and its table in memory; contracts of count, add, next, and of the function that makes an empty one. -/
namespace Go.Proofs.YthmhehehomieiaaGreat
open Go.RowKit

/-- Blocks b and t are a buffer with room for M, which holds xs, and a table of C words a card of W, from F on, with the marks ms; they and what they hold lie in blocks of S. -/
structure Sd (w : World) (b t : Nat) (S : Nat → Prop) (M F W C : Int) (xs : List Int) (ms : List Bool) : Prop where
  buf : ∃ A c, IsBuf w b M A xs.length c xs ∧ ∀ k, blkOf A = some k → S k
  tab : ∃ mb, IsTb w t mb F W C ms ∧ S mb
  sb : S b
  st : S t
  lt : ∀ k, S k → k < w.heap.size

abbrev sdV (b t : Nat) : Value := .agg #[bfP b, tbP t]

section
variable {S S' : Nat → Prop} {w w' : World} {b t : Nat} {M F W C : Int} {xs : List Int} {ms : List Bool}
theorem Sd.frm (h : Sd w b t S M F W C xs ms) (f : Frm S' w w') (dis : ∀ k, S k → ¬ S' k) : Sd w' b t S M F W C xs ms := by
  obtain ⟨⟨A, c, hb, hA⟩, ⟨mb, ht, hm⟩, sb, st, lt⟩ := h
  exact ⟨⟨A, c, hb.frm f (dis _ sb) fun k hk => dis k (hA k hk), hA⟩, ⟨mb, { ht with blk := ht.blk.frm f (dis _ st), row := ht.row.frm f (dis _ hm) }, hm⟩, sb, st, fun k hk => Nat.lt_of_lt_of_le (lt k hk) f.size⟩

theorem Sd.keep (h : Sd w b t S M F W C xs ms) (f : Below w.heap.size w w') : Sd w' b t S M F W C xs ms := h.frm (S' := fun _ => False) (Frm.of_below f) fun _ _ e => e

theorem Sd.m0 (h : Sd w b t S M F W C xs ms) : 0 ≤ M := by obtain ⟨A, c, hb, _⟩ := h.buf; exact hb.m0
theorem Sd.few (h : Sd w b t S M F W C xs ms) : (xs.length : Int) ≤ 1048576 := by obtain ⟨A, c, hb, _⟩ := h.buf; have := hb.few; have := hb.m1; omega
theorem Sd.room (h : Sd w b t S M F W C xs ms) : (xs.length : Int) ≤ M := by obtain ⟨A, c, hb, _⟩ := h.buf; exact hb.few
theorem Sd.marks (h : Sd w b t S M F W C xs ms) : ms.length ≤ 1048576 := by obtain ⟨mb, ht, _⟩ := h.tab; exact ht.few
theorem Sd.count_le (h : Sd w b t S M F W C xs ms) : ms.count true ≤ 1048576 := Nat.le_trans (List.count_le_length) h.marks

/-- The buffer has turned. -/
theorem Sd.bufT {A A' : Option Addr} {n c n' c' : Nat} {ys : List Int} {mb : Nat} (hb : IsBuf w b M A n c xs) (hA : ∀ k, blkOf A = some k → S k) (ht : IsTb w t mb F W C ms) (hm : S mb) (sb : S b) (st : S t) (lt : ∀ k, S k → k < w.heap.size)
    (h' : IsBuf w' b M A' n' c' ys) (k : BufT b A A' w w') : ∃ S', Sd w' b t S' M F W C ys ms ∧ Mv S S' w w' := by
  obtain rfl : ys.length = n' := h'.row.len
  have no : ∀ {g : Nat} {cs : Array Value} {ty : TypeId}, Blk w g cs ty → ty ≠ 191 → ty ≠ 3 → ¬ (g = b ∨ blkOf A = some g) := by
    rintro g cs ty hg n1 n2 (rfl | e)
    · exact Blk.ne_ hg hb.blk n1 rfl
    · rcases hb.row.lies with ⟨rfl, _⟩ | ⟨g', off, cs', rfl, hb', _⟩
      · cases e
      · cases e
        exact Blk.ne_ hg hb' n2 rfl
  refine ⟨fun j => S j ∨ blkOf A' = some j, ⟨⟨A', c', h', fun j hj => .inr hj⟩, ⟨mb, { ht with blk := ht.blk.frm k.frm (no ht.blk (by decide) (by decide)), row := ht.row.frm k.frm (no ht.row (by decide) (by decide)) }, .inl hm⟩, .inl sb, .inl st, ?_⟩, ?_, ?_⟩
  · rintro j (hj | hj)
    · exact Nat.lt_of_lt_of_le (lt j hj) k.frm.size
    · exact h'.row.lt hj
  · exact k.frm.mono fun i _ e => e.elim (fun e => e ▸ sb) (hA i)
  · rintro j (hj | hj)
    · exact .inl hj
    · exact (k.at_ j hj).imp (hA j) id

/-- The marks have turned. -/
theorem Sd.tabT {A : Option Addr} {n c : Nat} {ks : List Bool} {mb : Nat} (hb : IsBuf w b M A n c xs) (hA : ∀ k, blkOf A = some k → S k) (ht : IsTb w t mb F W C ms) (hm : S mb) (sb : S b) (st : S t) (lt : ∀ k, S k → k < w.heap.size)
    (k : Tn t mb F W C ks w w') : Sd w' b t S M F W C xs ks ∧ Mv S S w w' := by
  obtain rfl : xs.length = n := hb.row.len
  refine ⟨⟨⟨A, c, hb.frm k.frm (fun e => Blk.ne_ hb.blk ht.row (by decide) e) ?_, hA⟩, ⟨mb, k.is, hm⟩, sb, st, fun j hj => Nat.lt_of_lt_of_le (lt j hj) k.frm.size⟩, k.frm.mono fun i _ e => e ▸ hm, fun j hj => .inl hj⟩
  rintro j hj rfl
  rcases hb.row.lies with ⟨rfl, _⟩ | ⟨g', off, cs', rfl, hb', _⟩
  · cases hj
  · cases hj
    exact Blk.ne_ hb' ht.row (by decide) rfl
end

section
variable (S : Nat → Prop) (b t : Nat) (M F W C : Int) (xs : List Int) (ms : List Bool) (w : World)

/-- The box that a side is laid into. -/
abbrev sbx (b t : Nat) : Obj := .cells #[bfP b, tbP t] 142

set_option maxHeartbeats 4000000 in
theorem sd_count (h : Sd w b t S M F W C xs ms) :
    Calls Tryz.prog 93 #[sdV b t] w fun e w' => e = .returned (.int .i64 (xs.length + ms.count true : Nat)) ∧ Below w.heap.size w w' := by
  have few := h.few
  have cnt := h.count_le
  obtain ⟨⟨A, c, hb, hA⟩, ⟨mb, ht, hm⟩, sb, st, lt⟩ := h
  have bw : Below w.heap.size w (w.alloc (sbx b t)) := (Below.refl _ _).alloc (Nat.le_refl _) _
  have kb := Blk.new w #[bfP b, tbP t] 142
  have d0 := kb.cell 0
  have d1 := kb.cell 1
  have df := kb.frozen
  have HL := Lib.hid (fun n => Calls.quiet_of_same ((bfLen_any b M A _ c xs ((w.alloc (sbx b t)).drewN n) ((hb.keep bw).keep (below_drewN _ _))).mono fun e w' ⟨he, hw⟩ => ⟨he, hw.symm⟩))
  have HC := Lib.hid (fun n => Calls.quiet_of_same ((cCount_any t mb F W C ms ((w.alloc (sbx b t)).drewN n) ((ht.keep bw).keep (below_drewN _ _))).mono fun e w' ⟨he, hw⟩ => ⟨he, hw.symm⟩))
  have BW := Lib.hid bw
  have e1 : IntKind.i64.wrap ((xs.length : Int) + (ms.count true : Nat)) = ((xs.length + ms.count true : Nat) : Int) := by rw [IntWalk.i64_in _ (by omega)]; omega
  clear hb hA ht hm sb st lt bw kb
  unfold sdV bfP tbP at *
  go_enter Tryz.func93, Tryz.ntmps93
  go_wp2_with fail
  go_big_quiet (first | (go_at_call 128; exact HL.out _) | (go_at_call 129; exact HC.out _))
  go_wp2
  go_ret
  exact ⟨rfl, below_trans BW.out (below_drewN _ _)⟩

set_option maxHeartbeats 4000000 in
theorem sd_put (x : Int) (h : Sd w b t S M F W C xs ms) (hn : (xs.length : Int) < M) :
    Calls Tryz.prog 117 #[sdV b t, .int .i64 x] w fun e w' => e = .returned (.tuple #[]) ∧ ∃ S', Sd w' b t S' M F W C (xs ++ [x]) ms ∧ Mv S S' w w' := by
  obtain ⟨⟨A, c, hb, hA⟩, ⟨mb, ht, hm⟩, sb, st, lt⟩ := h
  have bw : Below w.heap.size w (w.alloc (sbx b t)) := (Below.refl _ _).alloc (Nat.le_refl _) _
  have kb := Blk.new w #[bfP b, tbP t] 142
  have d0 := kb.cell 0
  have df := kb.frozen
  have HP := Lib.hid (bfPut_yes b M A _ c xs x _ (hb.keep bw) hn)
  have HT := Lib.hid (fun w' A' n' c' (h' : IsBuf w' b M A' n' c' (xs ++ [x])) (k : BufT b A A' (w.alloc (sbx b t)) w') => (Sd.bufT (hb.keep bw) hA (ht.keep bw) hm sb st (fun k hk => Nat.lt_of_lt_of_le (lt k hk) bw.size) h' k).imp fun _ hs => And.intro hs.1 (hs.2.pre bw))
  clear hb hA ht hm sb st lt bw kb hn
  unfold sdV bfP tbP at *
  go_enter Tryz.func117, Tryz.ntmps117
  go_wp2_with fail
  refine HP.out.mono ?_
  rintro e w1 ⟨rfl, A', c', h', k⟩
  have R := Lib.hid (HT.out _ _ _ _ h' k)
  clear h' k HT HP d0 df
  go_wp2
  go_end0
  exact ⟨rfl, R.out⟩

set_option maxHeartbeats 4000000 in
theorem sd_mark (x : Int) (j : Nat) (h : Sd w b t S M F W C xs ms) (hn : M ≤ xs.length) (x0 : F ≤ x) (x1 : x < F + W) (hj : (x - F) / C = j) :
    Calls Tryz.prog 117 #[sdV b t, .int .i64 x] w fun e w' => e = .returned (.tuple #[]) ∧ ∃ S', Sd w' b t S' M F W C xs (ms.set j true) ∧ Mv S S' w w' := by
  obtain ⟨⟨A, c, hb, hA⟩, ⟨mb, ht, hm⟩, sb, st, lt⟩ := h
  have bw : Below w.heap.size w (w.alloc (sbx b t)) := (Below.refl _ _).alloc (Nat.le_refl _) _
  have kb := Blk.new w #[bfP b, tbP t] 142
  have d0 := kb.cell 0
  have df := kb.frozen
  have HP := Lib.hid (bfPut_no b M A _ c xs x _ (hb.keep bw) hn)
  have HM := Lib.hid (fun w1 (f : Below (w.alloc (sbx b t)).heap.size (w.alloc (sbx b t)) w1) => cMark_yes t mb F W C ms w1 x j ((ht.keep bw).keep f) x0 x1 hj)
  have HT := Lib.hid (fun w1 w' (f : Below (w.alloc (sbx b t)).heap.size (w.alloc (sbx b t)) w1) (k : Tn t mb F W C (ms.set j true) w1 w') =>
    (show ∃ S', Sd w' b t S' M F W C xs (ms.set j true) ∧ Mv S S' w w' from
      have hs := Sd.tabT ((hb.keep bw).keep f) hA ((ht.keep bw).keep f) hm sb st (fun k hk => Nat.lt_of_lt_of_le (lt k hk) (Nat.le_trans bw.size f.size)) k
      ⟨S, hs.1, hs.2.pre (below_trans bw f)⟩))
  have HK := Lib.hid (fun w1 (f : Below (w.alloc (sbx b t)).heap.size (w.alloc (sbx b t)) w1) => kb.keep f)
  clear hb hA ht hm sb st lt bw kb hn x0 x1 hj
  unfold sdV bfP tbP at *
  go_enter Tryz.func117, Tryz.ntmps117
  go_wp2_with fail
  refine HP.out.mono ?_
  rintro e w1 ⟨rfl, f⟩
  have f1 := (HK.out _ f).cell 1
  have ff := (HK.out _ f).frozen
  have FF := Lib.hid f
  clear f d0 df HP
  go_wp2_with fail
  refine (HM.out _ FF.out).mono ?_
  rintro e w2 ⟨rfl, k⟩
  have R := Lib.hid (HT.out _ _ FF.out k)
  clear k HT HM f1 ff
  go_wp2
  go_end0
  exact ⟨rfl, R.out⟩

/-- Four results. -/
theorem results_tmp4 {fn : Func} {t u v x : Tmp} (h : fn.results = #[.tmp t, .tmp u, .tmp v, .tmp x]) (tmps : Array Value) (P : Program) (w : World) :
    (results fn tmps).run P w = .ok (.tuple #[tmps.getD t undef, tmps.getD u undef, tmps.getD v undef, tmps.getD x undef]) w := by
  simp [results, h]

set_option maxHeartbeats 4000000 in
theorem sd_next_buf (x : Int) (x0 : -9223372036854775808 ≤ x) (x1 : x < 9223372036854775807) (h : Sd w b t S M F W C (x :: xs) ms) :
    Calls Tryz.prog 159 #[sdV b t] w fun e w' => e = .returned (.tuple #[.int .i64 x, .int .i64 (x + 1), .bool false, .bool true]) ∧ ∃ S', Sd w' b t S' M F W C xs ms ∧ Mv S S' w w' := by
  obtain ⟨⟨A, c, hb, hA⟩, ⟨mb, ht, hm⟩, sb, st, lt⟩ := h
  have bw : Below w.heap.size w (w.alloc (sbx b t)) := (Below.refl _ _).alloc (Nat.le_refl _) _
  have kb := Blk.new w #[bfP b, tbP t] 142
  have d0 := kb.cell 0
  have df := kb.frozen
  have HP := Lib.hid (bfTake_yes b M A _ c xs x _ (hb.keep bw))
  have HT := Lib.hid (fun w' A' n' c' (h' : IsBuf w' b M A' n' c' xs) (k : BufT b A A' (w.alloc (sbx b t)) w') => (Sd.bufT (hb.keep bw) hA (ht.keep bw) hm sb st (fun k hk => Nat.lt_of_lt_of_le (lt k hk) bw.size) h' k).imp fun _ hs => And.intro hs.1 (hs.2.pre bw))
  clear hb hA ht hm sb st lt bw kb
  unfold sdV bfP tbP at *
  go_enter Tryz.func159, Tryz.ntmps159
  go_wp2_with fail
  refine HP.out.mono ?_
  rintro e w1 ⟨rfl, A', c', h', k⟩
  have R := Lib.hid (HT.out _ _ _ _ h' k)
  clear h' k HT HP d0 df
  go_wp2
  (try simp only [Exit.inBlock, Exit.then])
  refine bodyPost_ret (results_tmp4 rfl _ _ _) rfl ?_
  exact ⟨rfl, R.out⟩

set_option maxHeartbeats 4000000 in
theorem sd_next_none (h : Sd w b t S M F W C [] ms) (hn : ∀ i : Nat, ms[i]? ≠ some true) :
    Calls Tryz.prog 159 #[sdV b t] w fun e w' => e = .returned (.tuple #[.int .i64 0, .int .i64 0, .bool false, .bool false]) ∧ Below w.heap.size w w' := by
  obtain ⟨⟨A, c, hb, hA⟩, ⟨mb, ht, hm⟩, sb, st, lt⟩ := h
  have bw : Below w.heap.size w (w.alloc (sbx b t)) := (Below.refl _ _).alloc (Nat.le_refl _) _
  have kb := Blk.new w #[bfP b, tbP t] 142
  have d0 := kb.cell 0
  have d1 := kb.cell 1
  have df := kb.frozen
  have HP := Lib.hid (bfTake_no b M A c _ (hb.keep bw))
  have HF := Lib.hid ((cFirst_any t mb F W C ms _ 0 (ht.keep bw) (by omega)).mono fun e w' ⟨r, ok, he, hf, hw⟩ => (show e = Ending.returned (.tuple #[.int .i64 0, .bool false]) ∧ w.alloc (sbx b t) = w' from by
    have := hf.one (r' := 0) (ok' := false) (Or.inr ⟨rfl, rfl, fun i _ => hn i⟩)
    rw [he, this.1, this.2]
    exact ⟨rfl, hw⟩))
  have BW := Lib.hid bw
  clear hb hA ht hm sb st lt bw kb hn
  unfold sdV bfP tbP at *
  go_enter Tryz.func159, Tryz.ntmps159
  go_wp2_with fail
  refine HP.out.mono ?_
  rintro e w1 ⟨rfl, rfl⟩
  go_wp2_with fail
  refine HF.out.mono ?_
  rintro e w1 ⟨rfl, rfl⟩
  go_wp2
  (try simp only [Exit.inBlock, Exit.then])
  refine bodyPost_ret (results_tmp4 rfl _ _ _) rfl ?_
  exact ⟨rfl, BW.out⟩

set_option maxHeartbeats 4000000 in
theorem sd_next_card (j : Nat) (h : Sd w b t S M F W C [] ms) (hj : ms[j]? = some true) (hn : ∀ i : Nat, i < j → ms[i]? = some false) :
    Calls Tryz.prog 159 #[sdV b t] w fun e w' => e = .returned (.tuple #[.int .i64 (F + j * C), .int .i64 (endI F W C j), .bool true, .bool true]) ∧ ∃ S', Sd w' b t S' M F W C [] (ms.set j false) ∧ Mv S S' w w' := by
  obtain ⟨⟨A, c, hb, hA⟩, ⟨mb, ht, hm⟩, sb, st, lt⟩ := h
  have bw : Below w.heap.size w (w.alloc (sbx b t)) := (Below.refl _ _).alloc (Nat.le_refl _) _
  have kb := Blk.new w #[bfP b, tbP t] 142
  have d0 := kb.cell 0
  have d1 := kb.cell 1
  have df := kb.frozen
  have jl : j < ms.length := (List.getElem?_eq_some_iff.1 hj).1
  have HP := Lib.hid (bfTake_no b M A c _ (hb.keep bw))
  have HF := Lib.hid ((cFirst_any t mb F W C ms _ 0 (ht.keep bw) (by omega)).mono fun e w' ⟨r, ok, he, hf, hw⟩ => (show e = Ending.returned (.tuple #[.int .i64 j, .bool true]) ∧ w.alloc (sbx b t) = w' from by
    have := hf.one (r' := j) (ok' := true) (Or.inl ⟨j, rfl, rfl, by omega, hj, fun i _ => hn i⟩)
    rw [he, this.1, this.2]
    exact ⟨rfl, hw⟩))
  have HC := Lib.hid (cClear_yes t mb F W C ms _ j true (ht.keep bw) hj)
  have HT := Lib.hid (fun w' (k : Tn t mb F W C (ms.set j false) (w.alloc (sbx b t)) w') =>
    (show Calls Tryz.prog 141 #[tbP t, .int .i64 j] w' (fun e w2 => e = .returned (.tuple #[.int .i64 (F + j * C), .int .i64 (endI F W C j)]) ∧ Below w'.heap.size w' w2) ∧ Blk w' w.heap.size #[bfP b, tbP t] 142 ∧ ∃ S', Sd w' b t S' M F W C [] (ms.set j false) ∧ Mv S S' w w' from
      have hs := Sd.tabT (hb.keep bw) hA (ht.keep bw) hm sb st (fun k hk => Nat.lt_of_lt_of_le (lt k hk) bw.size) k
      ⟨cPart_yes t mb F W C _ _ j k.is (by omega) (by rw [List.length_set]; omega), kb.frm k.frm (by rintro rfl; have := ht.row.lt; omega), S, hs.1, hs.2.pre bw⟩))
  clear hb hA ht hm sb st lt bw kb hn hj
  unfold sdV bfP tbP at *
  go_enter Tryz.func159, Tryz.ntmps159
  go_wp2_with fail
  refine HP.out.mono ?_
  rintro e w1 ⟨rfl, rfl⟩
  go_wp2_with fail
  refine HF.out.mono ?_
  rintro e w1 ⟨rfl, rfl⟩
  go_wp2_with fail
  refine HC.out.mono ?_
  rintro e w1 ⟨rfl, k⟩
  obtain ⟨hp, kb, sd⟩ := HT.out _ k
  have HP2 := Lib.hid hp
  have SD := Lib.hid sd
  have f1 := kb.cell 1
  have ff := kb.frozen
  clear hp sd kb k HT HC HF HP d0 d1 df
  go_wp2_with fail
  refine HP2.out.mono ?_
  rintro e w2 ⟨rfl, b2⟩
  have R := Lib.hid (SD.out.imp fun _ hs => And.intro (hs.1.keep b2) (hs.2.post b2))
  clear b2 HP2 SD f1 ff
  go_wp2
  (try simp only [Exit.inBlock, Exit.then])
  refine bodyPost_ret (results_tmp4 rfl _ _ _) rfl ?_
  exact ⟨rfl, R.out⟩
end

/-- The four numbers that a side is made of. -/
structure Caps (w : World) (k0 k1 k2 k3 : Nat) (m f n c : Int) : Prop where
  b0 : Blk w k0 #[.int .i64 m] 3
  b1 : Blk w k1 #[.int .i64 f] 3
  b2 : Blk w k2 #[.int .i64 n] 3
  b3 : Blk w k3 #[.int .i64 c] 3

section
variable {w w' : World} {k0 k1 k2 k3 : Nat} {m f n c : Int}
theorem Caps.keep (h : Caps w k0 k1 k2 k3 m f n c) (b : Below w.heap.size w w') : Caps w' k0 k1 k2 k3 m f n c := ⟨h.b0.keep b, h.b1.keep b, h.b2.keep b, h.b3.keep b⟩
theorem Caps.frm {S : Nat → Prop} (h : Caps w k0 k1 k2 k3 m f n c) (b : Frm S w w') (n0 : ¬ S k0) (n1 : ¬ S k1) (n2 : ¬ S k2) (n3 : ¬ S k3) : Caps w' k0 k1 k2 k3 m f n c := ⟨h.b0.frm b n0, h.b1.frm b n1, h.b2.frm b n2, h.b3.frm b n3⟩
theorem Caps.set2 (h : Caps w k0 k1 k2 k3 m f n c) {g : Nat} (n0 : ¬ k0 = g) (n1 : ¬ k1 = g) (n2 : ¬ k2 = g) (n3 : ¬ k3 = g) (i j : Nat) (u v : Value) : Caps ((w.setCell ⟨g, i, none⟩ u).setCell ⟨g, j, none⟩ v) k0 k1 k2 k3 m f n c :=
  ⟨(h.b0.far n0 _).far n0 _, (h.b1.far n1 _).far n1 _, (h.b2.far n2 _).far n2 _, (h.b3.far n3 _).far n3 _⟩
theorem Caps.four (h : Caps w k0 k1 k2 k3 m f n c) : w.cell? ⟨k0, 0, none⟩ = some (.int .i64 m) ∧ w.cell? ⟨k1, 0, none⟩ = some (.int .i64 f) ∧ w.cell? ⟨k2, 0, none⟩ = some (.int .i64 n) ∧ w.cell? ⟨k3, 0, none⟩ = some (.int .i64 c) :=
  ⟨h.b0.cell 0, h.b1.cell 0, h.b2.cell 0, h.b3.cell 0⟩
end

/-- How many cards there are. -/
def nmI (W C : Int) : Nat := ((W + C - 1) / C).toNat

/-- A pointer to a block's beginning. -/
abbrev ptr (k : Nat) : Value := .pointer (some ⟨k, 0, none⟩)

/-- What a fresh side is. -/
def Fresh (w w' : World) (b t : Nat) (m f n c : Int) : Prop :=
  Sd w' b t (fun k => w.heap.size ≤ k ∧ k < w'.heap.size) (cutI m 0 1048576) (cutI f 0 1048576) (cutI n 0 1048576) (cutI c 1 1048576) [] (List.replicate (nmI (cutI n 0 1048576) (cutI c 1 1048576)) false)

set_option maxHeartbeats 8000000 in
theorem sd_make (k0 k1 k2 k3 : Nat) (m f n c : Int) (w : World) (h : Caps w k0 k1 k2 k3 m f n c) :
    Calls Tryz.prog 142 #[ptr k0, ptr k1, ptr k2, ptr k3] w fun e w' => ∃ b t, e = .returned (sdV b t) ∧ Fresh w w' b t m f n c ∧ Below w.heap.size w w' := by
  have bw : Below w.heap.size w (w.alloc (.cells #[.pointer none, .pointer none] 142)) := (Below.refl _ _).alloc (Nat.le_refl _) _
  have kk := (h.keep bw).keep (below_drew _)
  have rr : Blk (w.alloc (.cells #[.pointer none, .pointer none] 142)).drew w.heap.size #[.pointer none, .pointer none] 142 := (Blk.new w _ _).drew
  have bb := below_trans bw (below_drew _)
  clear bw
  have n0 : ¬ k0 = w.heap.size := fun e => Nat.lt_irrefl _ (e ▸ h.b0.lt)
  have n1 : ¬ k1 = w.heap.size := fun e => Nat.lt_irrefl _ (e ▸ h.b1.lt)
  have n2 : ¬ k2 = w.heap.size := fun e => Nat.lt_irrefl _ (e ▸ h.b2.lt)
  have n3 : ¬ k3 = w.heap.size := fun e => Nat.lt_irrefl _ (e ▸ h.b3.lt)
  obtain ⟨g0, g1, g2, g3⟩ := h.four
  clear h
  go_enter Tryz.func142, Tryz.ntmps142
  go_wp2_with fail
  go_region_held3 (fun w' => w'.cell? ⟨k0, 0, none⟩ = some (.int .i64 m) ∧ w'.cell? ⟨k1, 0, none⟩ = some (.int .i64 f) ∧ w'.cell? ⟨k2, 0, none⟩ = some (.int .i64 n) ∧ w'.cell? ⟨k3, 0, none⟩ = some (.int .i64 c))
   (first | exact kk.four | exact (kk.set2 n0 n1 n2 n3 _ _ _ _).four)
   (first
    | (go_at_call 143; refine (bfNew_any m _).mono ?_; rintro e v1 ⟨rfl, hb, b2⟩; have hb0 := hb; have kk := kk.keep b2; have rr := rr.keep b2; have bb := below_trans bb b2; clear b2)
    | (go_at_call 140; refine (cNew_any f n c _).mono ?_; rintro e v2 ⟨t, mb, rfl, t1, t2, hN, b2⟩; have hb := hb.keep b2; have kk := kk.keep b2; have rr := rr.keep b2; have bb := below_trans bb b2; have q0 := rr.cell 0; have q1 := rr.cell 1; have qf := rr.frozen; clear b2))
  all_goals
    go_wp2
    have z1 := ((rr.set_ 0 (bfP (w.heap.size + 1))).set_ 1 (tbP t)).cell 1
    have z2 := ((rr.set_ 0 (bfP (w.heap.size + 1))).set_ 1 (tbP t)).cell 0
    have hfin : Below w.heap.size w ((v2.setCell ⟨w.heap.size, 0, none⟩ (bfP (w.heap.size + 1))).setCell ⟨w.heap.size, 1, none⟩ (tbP t)) := (bb.setCell (Nat.le_refl _) _).setCell (Nat.le_refl _) _
    have hs : (w.alloc (.cells #[.pointer none, .pointer none] 142)).drew.heap.size = w.heap.size + 1 := by simp
    have hfar : Frm (· = w.heap.size) v2 ((v2.setCell ⟨w.heap.size, 0, none⟩ (bfP (w.heap.size + 1))).setCell ⟨w.heap.size, 1, none⟩ (tbP t)) := Frm.setCell (S := (· = w.heap.size)) (Frm.setCell (S := (· = w.heap.size)) (Frm.refl _ v2) (p := ⟨w.heap.size, 0, none⟩) (fun _ => rfl) _) (p := ⟨w.heap.size, 1, none⟩) (fun _ => rfl) _
    (try simp only [Exit.inBlock, Exit.then])
    refine bodyPost_ret (v := sdV (w.heap.size + 1) t) (by simp [results, Tryz.results142, go_sem, z1, z2]) rfl ⟨_, _, rfl, ?_, hfin⟩
    obtain ⟨N, hN, ht⟩ := hN
    have eN : nmI (cutI n 0 1048576) (cutI c 1 1048576) = N := by unfold nmI; omega
    rw [hs] at hb
    have v1s := (hb0.blk.lt : _ < v1.heap.size)
    refine ⟨⟨none, 0, hb.frm hfar (by omega) (fun k hk => by cases hk), fun k hk => by cases hk⟩, ⟨mb, ?_, by omega, ?_⟩, ⟨by omega, ?_⟩, ⟨by omega, ?_⟩, fun k hk => hk.2⟩
    · rw [eN]
      exact { ht with blk := ht.blk.frm hfar (by omega), row := ht.row.frm hfar (by omega) }
    · exact Nat.lt_of_lt_of_le ht.row.lt hfar.size
    · exact Nat.lt_of_lt_of_le hb.blk.lt hfar.size
    · exact Nat.lt_of_lt_of_le ht.blk.lt hfar.size
end Go.Proofs.YthmhehehomieiaaGreat

/- The program's set in memory; contracts of Left, Len, Add, Next, Flip, New; of none, too. -/
namespace Go.Proofs.YthmhehehomieiaaGreat
open Go.RowKit

/-- What a set's block holds, and where its sides lie. -/
structure Pt where
  (X Y m f n c : Int)
  (k0 k1 k2 k3 b1 t1 b2 t2 : Nat)
  (S1 S2 : Nat → Prop)

/-- The blocks of a set. -/
def Pt.own (p : Pt) (s : Nat) (k : Nat) : Prop := k = s ∨ k = p.k0 ∨ k = p.k1 ∨ k = p.k2 ∨ k = p.k3 ∨ p.S1 k ∨ p.S2 k

abbrev fnV (k0 k1 k2 k3 : Nat) : Value := .func (.func 142) #[] #[ptr k0, ptr k1, ptr k2, ptr k3]

/-- Block s is a set: xs and ms are to be looked at, ys and ns are beside them. -/
structure IsSet (w : World) (s : Nat) (p : Pt) (M F W C : Int) (xs : List Int) (ms : List Bool) (ys : List Int) (ns : List Bool) : Prop where
  blk : Blk w s #[.int .i64 p.X, .int .i64 p.Y, fnV p.k0 p.k1 p.k2 p.k3, bfP p.b1, tbP p.t1, bfP p.b2, tbP p.t2] 144
  caps : Caps w p.k0 p.k1 p.k2 p.k3 p.m p.f p.n p.c
  room : cutI p.m 0 1048576 = M
  from_ : cutI p.f 0 1048576 = F
  words : cutI p.n 0 1048576 = W
  card : cutI p.c 1 1048576 = C
  in_ : ∀ x, (p.X ≤ x ∧ x < p.Y) ↔ (F ≤ x ∧ x < F + W)
  look : Sd w p.b1 p.t1 p.S1 M F W C xs ms
  rest : Sd w p.b2 p.t2 p.S2 M F W C ys ns
  two : ∀ k, p.S1 k → ¬ p.S2 k
  one : ∀ k, (p.S1 k ∨ p.S2 k) → k ≠ s ∧ k ≠ p.k0 ∧ k ≠ p.k1 ∧ k ≠ p.k2 ∧ k ≠ p.k3
  xin : ∀ x ∈ xs, F ≤ x ∧ x < F + W
  yin : ∀ x ∈ ys, F ≤ x ∧ x < F + W

section
variable {w w' : World} {s : Nat} {p : Pt} {M F W C : Int} {xs ys : List Int} {ms ns : List Bool}

theorem IsSet.lt (h : IsSet w s p M F W C xs ms ys ns) {k : Nat} (hk : p.own s k) : k < w.heap.size := by
  rcases hk with rfl | rfl | rfl | rfl | rfl | hk | hk
  · exact h.blk.lt
  · exact h.caps.b0.lt
  · exact h.caps.b1.lt
  · exact h.caps.b2.lt
  · exact h.caps.b3.lt
  · exact h.look.lt _ hk
  · exact h.rest.lt _ hk

theorem IsSet.frm {S : Nat → Prop} (h : IsSet w s p M F W C xs ms ys ns) (f : Frm S w w') (hs : ∀ k, p.own s k → ¬ S k) : IsSet w' s p M F W C xs ms ys ns :=
  { h with
    blk := h.blk.frm f (hs _ (.inl rfl))
    caps := h.caps.frm f (hs _ (.inr (.inl rfl))) (hs _ (.inr (.inr (.inl rfl)))) (hs _ (.inr (.inr (.inr (.inl rfl))))) (hs _ (.inr (.inr (.inr (.inr (.inl rfl))))))
    look := h.look.frm f fun k hk => hs k (.inr (.inr (.inr (.inr (.inr (.inl hk))))))
    rest := h.rest.frm f fun k hk => hs k (.inr (.inr (.inr (.inr (.inr (.inr hk)))))) }

theorem IsSet.keep (h : IsSet w s p M F W C xs ms ys ns) (f : Below w.heap.size w w') : IsSet w' s p M F W C xs ms ys ns := h.frm (S := fun _ => False) (Frm.of_below f) fun _ _ e => e

theorem IsSet.seven (h : IsSet w s p M F W C xs ms ys ns) :
    w.cell? ⟨s, 0, none⟩ = some (.int .i64 p.X) ∧ w.cell? ⟨s, 1, none⟩ = some (.int .i64 p.Y) ∧ w.cell? ⟨s, 2, none⟩ = some (fnV p.k0 p.k1 p.k2 p.k3) ∧ w.cell? ⟨s, 3, none⟩ = some (bfP p.b1) ∧ w.cell? ⟨s, 4, none⟩ = some (tbP p.t1) ∧ w.cell? ⟨s, 5, none⟩ = some (bfP p.b2) ∧ w.cell? ⟨s, 6, none⟩ = some (tbP p.t2) ∧
    (∀ i, w.frozen? ⟨s, i, none⟩ = false) := h.blk.seven

theorem IsSet.new (h : IsSet w s p M F W C xs ms ys ns) {k : Nat} (hk : w.heap.size ≤ k) : k ≠ s ∧ k ≠ p.k0 ∧ k ≠ p.k1 ∧ k ≠ p.k2 ∧ k ≠ p.k3 := by
  have := h.blk.lt
  have := h.caps.b0.lt
  have := h.caps.b1.lt
  have := h.caps.b2.lt
  have := h.caps.b3.lt
  omega

/-- What is to be looked at has turned. -/
theorem IsSet.lookT {S' : Nat → Prop} {us : List Int} {ks : List Bool} (h : IsSet w s p M F W C xs ms ys ns) (sd : Sd w' p.b1 p.t1 S' M F W C us ks) (mv : Mv p.S1 S' w w') (hin : ∀ x ∈ us, F ≤ x ∧ x < F + W) :
    ∃ p', IsSet w' s p' M F W C us ks ys ns ∧ Mv (p.own s) (p'.own s) w w' := by
  have o := fun k (hk : p.S1 k) => h.one k (.inl hk)
  have new : ∀ k, S' k → p.S1 k ∨ w.heap.size ≤ k := mv.at_
  refine ⟨{ p with S1 := S' }, { h with blk := ?_, caps := ?_, look := sd, rest := h.rest.frm mv.frm fun k hk hn => h.two k hn hk, two := ?_, one := ?_, xin := hin }, ?_, ?_⟩
  · exact h.blk.frm mv.frm fun e => (o _ e).1 rfl
  · exact h.caps.frm mv.frm (fun e => (o _ e).2.1 rfl) (fun e => (o _ e).2.2.1 rfl) (fun e => (o _ e).2.2.2.1 rfl) (fun e => (o _ e).2.2.2.2 rfl)
  · intro k hk h2
    rcases new k hk with e | e
    · exact h.two k e h2
    · have := h.rest.lt k h2; omega
  · rintro k (hk | hk)
    · rcases new k hk with e | e
      · exact o k e
      · exact h.new e
    · exact h.one k (.inr hk)
  · exact mv.frm.mono fun i _ e => .inr (.inr (.inr (.inr (.inr (.inl e)))))
  · rintro k (e | e | e | e | e | e | e)
    · exact .inl (.inl e)
    · exact .inl (.inr (.inl e))
    · exact .inl (.inr (.inr (.inl e)))
    · exact .inl (.inr (.inr (.inr (.inl e))))
    · exact .inl (.inr (.inr (.inr (.inr (.inl e)))))
    · exact (new k e).imp (fun e => .inr (.inr (.inr (.inr (.inr (.inl e)))))) id
    · exact .inl (.inr (.inr (.inr (.inr (.inr (.inr e))))))

/-- What is beside it has turned. -/
theorem IsSet.restT {S' : Nat → Prop} {us : List Int} {ks : List Bool} (h : IsSet w s p M F W C xs ms ys ns) (sd : Sd w' p.b2 p.t2 S' M F W C us ks) (mv : Mv p.S2 S' w w') (hin : ∀ x ∈ us, F ≤ x ∧ x < F + W) :
    ∃ p', IsSet w' s p' M F W C xs ms us ks ∧ Mv (p.own s) (p'.own s) w w' := by
  have o := fun k (hk : p.S2 k) => h.one k (.inr hk)
  have new : ∀ k, S' k → p.S2 k ∨ w.heap.size ≤ k := mv.at_
  refine ⟨{ p with S2 := S' }, { h with blk := ?_, caps := ?_, look := h.look.frm mv.frm h.two, rest := sd, two := ?_, one := ?_, yin := hin }, ?_, ?_⟩
  · exact h.blk.frm mv.frm fun e => (o _ e).1 rfl
  · exact h.caps.frm mv.frm (fun e => (o _ e).2.1 rfl) (fun e => (o _ e).2.2.1 rfl) (fun e => (o _ e).2.2.2.1 rfl) (fun e => (o _ e).2.2.2.2 rfl)
  · intro k hk h2
    rcases new k h2 with e | e
    · exact h.two k hk e
    · have := h.look.lt k hk; omega
  · rintro k (hk | hk)
    · exact h.one k (.inl hk)
    · rcases new k hk with e | e
      · exact o k e
      · exact h.new e
  · exact mv.frm.mono fun i _ e => .inr (.inr (.inr (.inr (.inr (.inr e)))))
  · rintro k (e | e | e | e | e | e | e)
    · exact .inl (.inl e)
    · exact .inl (.inr (.inl e))
    · exact .inl (.inr (.inr (.inl e)))
    · exact .inl (.inr (.inr (.inr (.inl e))))
    · exact .inl (.inr (.inr (.inr (.inr (.inl e)))))
    · exact .inl (.inr (.inr (.inr (.inr (.inr (.inl e))))))
    · exact (new k e).imp (fun e => .inr (.inr (.inr (.inr (.inr (.inr e)))))) id

/-- How the turn is made: what was beside is to be looked at; a fresh side is beside it. -/
theorem IsSet.turn {w1 : World} {b t : Nat} (h : IsSet w s p M F W C xs ms ys ns) (b1 : Below w.heap.size w w1) (fr : Fresh w w1 b t p.m p.f p.n p.c)
    (k : Blk w' s #[.int .i64 p.X, .int .i64 p.Y, fnV p.k0 p.k1 p.k2 p.k3, bfP p.b2, tbP p.t2, bfP b, tbP t] 144) (f : Frm (· = s) w1 w') :
    ∃ p', IsSet w' s p' M F W C ys ns [] (List.replicate (nmI W C) false) ∧ Mv (p.own s) (p'.own s) w w' := by
  have fr1 : Sd w1 b t (fun k => w.heap.size ≤ k ∧ k < w1.heap.size) M F W C [] (List.replicate (nmI W C) false) := by
    have := fr
    unfold Fresh at this
    rw [h.room, h.from_, h.words, h.card] at this
    exact this
  have ls := h.blk.lt
  have l0 := h.caps.b0.lt
  have l1 := h.caps.b1.lt
  have l2 := h.caps.b2.lt
  have l3 := h.caps.b3.lt
  refine ⟨{ p with b1 := p.b2, t1 := p.t2, S1 := p.S2, b2 := b, t2 := t, S2 := fun k => w.heap.size ≤ k ∧ k < w1.heap.size }, ⟨k, ?_, h.room, h.from_, h.words, h.card, h.in_, ?_, ?_, ?_, ?_, h.yin, fun x hx => by cases hx⟩, ?_, ?_⟩
  · exact (h.caps.keep b1).frm f (Blk.ne_ h.caps.b0 h.blk (by decide)) (Blk.ne_ h.caps.b1 h.blk (by decide)) (Blk.ne_ h.caps.b2 h.blk (by decide)) (Blk.ne_ h.caps.b3 h.blk (by decide))
  · exact (h.rest.keep b1).frm f fun j hj e => (h.one j (.inr hj)).1 e
  · exact fr1.frm f fun j hj e => by have := hj.1; omega
  · intro j hj h2
    have := h.rest.lt j hj
    have := h2.1
    omega
  · rintro j (hj | ⟨hj, _⟩)
    · exact h.one j (.inr hj)
    · exact h.new hj
  · exact (Frm.of_below (S := p.own s) b1).trans f fun i _ e => .inl e
  · rintro j (e | e | e | e | e | e | ⟨e, _⟩)
    · exact .inl (.inl e)
    · exact .inl (.inr (.inl e))
    · exact .inl (.inr (.inr (.inl e)))
    · exact .inl (.inr (.inr (.inr (.inl e))))
    · exact .inl (.inr (.inr (.inr (.inr (.inl e)))))
    · exact .inl (.inr (.inr (.inr (.inr (.inr (.inr e))))))
    · exact .inr e
end

set_option maxRecDepth 100000 in
theorem ne_fn (fn : Fn) (cap : Array Value) (v : World) : Sem.run Tryz.prog (binOp .neq 138 (.func fn #[] cap) .nilFunc) v = .ok (.bool true) v := rfl

section
variable (s : Nat) (p : Pt) (M F W C : Int) (xs ys : List Int) (ms ns : List Bool) (w : World)

set_option maxHeartbeats 2000000 in
theorem set_left (h : IsSet w s p M F W C xs ms ys ns) :
    Calls Tryz.prog 138 #[ptr s] w fun e w' => e = .returned (.int .i64 (xs.length + ms.count true : Nat)) ∧ Below w.heap.size w w' := by
  obtain ⟨c0, c1, c2, c3, c4, c5, c6, cf⟩ := h.seven
  have H := Lib.hid (sd_count _ _ _ M F W C xs ms w h.look)
  unfold sdV bfP tbP ptr fnV at *
  clear h c0 c1 c2 c5 c6 cf
  go_enter Tryz.func138, Tryz.ntmps138
  go_wp2_with fail
  refine H.out.mono ?_
  rintro e w1 ⟨rfl, b1⟩
  have B := Lib.hid b1
  clear b1
  go_wp2
  go_ret
  exact ⟨rfl, B.out⟩

set_option maxHeartbeats 2000000 in
theorem set_len (h : IsSet w s p M F W C xs ms ys ns) :
    Calls Tryz.prog 39 #[ptr s] w fun e w' => e = .returned (.int .i64 (ys.length + ns.count true : Nat)) ∧ Below w.heap.size w w' := by
  obtain ⟨c0, c1, c2, c3, c4, c5, c6, cf⟩ := h.seven
  have H := Lib.hid (sd_count _ _ _ M F W C ys ns w h.rest)
  unfold sdV bfP tbP ptr fnV at *
  clear h c0 c1 c2 c3 c4 cf
  go_enter Tryz.func39, Tryz.ntmps39
  go_wp2_with fail
  refine H.out.mono ?_
  rintro e w1 ⟨rfl, b1⟩
  have B := Lib.hid b1
  clear b1
  go_wp2
  go_ret
  exact ⟨rfl, B.out⟩

set_option maxHeartbeats 2000000 in
theorem set_add_no (x : Int) (h : IsSet w s p M F W C xs ms ys ns) (hx : ¬ (F ≤ x ∧ x < F + W)) :
    Calls Tryz.prog 79 #[ptr s, .int .i64 x] w fun e w' => e = .returned (.bool false) ∧ w = w' := by
  obtain ⟨c0, c1, c2, c3, c4, c5, c6, cf⟩ := h.seven
  rw [← h.in_ x] at hx
  obtain ⟨X, eX⟩ : ∃ X, p.X = X := ⟨_, rfl⟩
  obtain ⟨Y, eY⟩ : ∃ Y, p.Y = Y := ⟨_, rfl⟩
  rw [eX] at c0 hx
  rw [eY] at c1 hx
  clear h c2 c3 c4 c5 c6 cf eX eY
  unfold ptr
  by_cases h0 : x < X
  · have d0 : decide (x < X) = true := decide_eq_true h0
    clear hx
    go_enter Tryz.func79, Tryz.ntmps79
    go_wp2
    go_ret
    exact ⟨rfl, rfl⟩
  · have h1 : Y ≤ x := by omega
    have d0 : decide (x < X) = false := decide_eq_false h0
    have d1 : decide (Y ≤ x) = true := decide_eq_true h1
    clear hx
    go_enter Tryz.func79, Tryz.ntmps79
    go_wp2
    go_ret
    exact ⟨rfl, rfl⟩

set_option maxHeartbeats 2000000 in
theorem set_add_put (x : Int) (h : IsSet w s p M F W C xs ms ys ns) (x0 : F ≤ x) (x1 : x < F + W) (hn : (ys.length : Int) < M) :
    Calls Tryz.prog 79 #[ptr s, .int .i64 x] w fun e w' => e = .returned (.bool true) ∧ ∃ p', IsSet w' s p' M F W C xs ms (ys ++ [x]) ns ∧ Mv (p.own s) (p'.own s) w w' := by
  obtain ⟨c0, c1, c2, c3, c4, c5, c6, cf⟩ := h.seven
  obtain ⟨y0, y1⟩ := (h.in_ x).2 ⟨x0, x1⟩
  have H := Lib.hid (sd_put _ _ _ M F W C ys ns w x h.rest hn)
  have K := Lib.hid (fun w' S' sd mv => h.restT (w' := w') (S' := S') (us := ys ++ [x]) (ks := ns) sd mv (fun z hz => by
    rcases List.mem_append.1 hz with hz | hz
    · exact h.yin z hz
    · rw [List.mem_singleton] at hz; subst hz; exact ⟨x0, x1⟩))
  obtain ⟨X, eX⟩ : ∃ X, p.X = X := ⟨_, rfl⟩
  obtain ⟨Y, eY⟩ : ∃ Y, p.Y = Y := ⟨_, rfl⟩
  rw [eX] at c0 y0
  rw [eY] at c1 y1
  unfold sdV bfP tbP ptr fnV at *
  clear h c2 c3 c4 cf eX eY x0 x1 hn
  have d0 : decide (x < X) = false := decide_eq_false (by omega)
  have d1 : decide (Y ≤ x) = false := decide_eq_false (by omega)
  go_enter Tryz.func79, Tryz.ntmps79
  go_wp2_with fail
  refine H.out.mono ?_
  rintro e w1 ⟨rfl, S', sd, mv⟩
  have R := Lib.hid (K.out _ _ sd mv)
  clear sd mv K H
  go_wp2
  go_ret
  exact ⟨rfl, R.out⟩

set_option maxHeartbeats 2000000 in
theorem set_add_mark (x : Int) (j : Nat) (h : IsSet w s p M F W C xs ms ys ns) (x0 : F ≤ x) (x1 : x < F + W) (hn : M ≤ ys.length) (hj : (x - F) / C = j) :
    Calls Tryz.prog 79 #[ptr s, .int .i64 x] w fun e w' => e = .returned (.bool true) ∧ ∃ p', IsSet w' s p' M F W C xs ms ys (ns.set j true) ∧ Mv (p.own s) (p'.own s) w w' := by
  obtain ⟨c0, c1, c2, c3, c4, c5, c6, cf⟩ := h.seven
  obtain ⟨y0, y1⟩ := (h.in_ x).2 ⟨x0, x1⟩
  have H := Lib.hid (sd_mark _ _ _ M F W C ys ns w x j h.rest hn x0 x1 hj)
  have K := Lib.hid (fun w' S' sd mv => h.restT (w' := w') (S' := S') (us := ys) (ks := ns.set j true) sd mv h.yin)
  obtain ⟨X, eX⟩ : ∃ X, p.X = X := ⟨_, rfl⟩
  obtain ⟨Y, eY⟩ : ∃ Y, p.Y = Y := ⟨_, rfl⟩
  rw [eX] at c0 y0
  rw [eY] at c1 y1
  unfold sdV bfP tbP ptr fnV at *
  clear h c2 c3 c4 cf eX eY x0 x1 hn hj
  have d0 : decide (x < X) = false := decide_eq_false (by omega)
  have d1 : decide (Y ≤ x) = false := decide_eq_false (by omega)
  go_enter Tryz.func79, Tryz.ntmps79
  go_wp2_with fail
  refine H.out.mono ?_
  rintro e w1 ⟨rfl, S', sd, mv⟩
  have R := Lib.hid (K.out _ _ sd mv)
  clear sd mv K H
  go_wp2
  go_ret
  exact ⟨rfl, R.out⟩

set_option maxHeartbeats 2000000 in
theorem set_next_buf (x : Int) (h : IsSet w s p M F W C (x :: xs) ms ys ns) :
    Calls Tryz.prog 132 #[ptr s] w fun e w' => e = .returned (.tuple #[.int .i64 x, .int .i64 (x + 1), .bool false, .bool true]) ∧ ∃ p', IsSet w' s p' M F W C xs ms ys ns ∧ Mv (p.own s) (p'.own s) w w' := by
  obtain ⟨c0, c1, c2, c3, c4, c5, c6, cf⟩ := h.seven
  have hx := h.xin x List.mem_cons_self
  obtain ⟨mb, tb, _⟩ := h.look.tab
  have f0 := tb.f0
  have f1 := tb.f1
  have w1 := tb.w1
  have H := Lib.hid (sd_next_buf _ _ _ M F W C xs ms w x (by omega) (by omega) h.look)
  have K := Lib.hid (fun w' S' sd mv => h.lookT (w' := w') (S' := S') (us := xs) (ks := ms) sd mv (fun z hz => h.xin z (List.mem_cons_of_mem _ hz)))
  unfold sdV bfP tbP ptr fnV at *
  clear h c0 c1 c2 c5 c6 cf hx tb f0 f1 w1
  go_enter Tryz.func132, Tryz.ntmps132
  go_wp2_with fail
  refine H.out.mono ?_
  rintro e w1 ⟨rfl, S', sd, mv⟩
  have R := Lib.hid (K.out _ _ sd mv)
  clear sd mv K H
  go_wp2
  (try simp only [Exit.inBlock, Exit.then])
  refine bodyPost_ret (results_tmp4 rfl _ _ _) rfl ?_
  exact ⟨rfl, R.out⟩

set_option maxHeartbeats 2000000 in
theorem set_next_card (j : Nat) (h : IsSet w s p M F W C [] ms ys ns) (hj : ms[j]? = some true) (hn : ∀ i : Nat, i < j → ms[i]? = some false) :
    Calls Tryz.prog 132 #[ptr s] w fun e w' => e = .returned (.tuple #[.int .i64 (F + j * C), .int .i64 (endI F W C j), .bool true, .bool true]) ∧ ∃ p', IsSet w' s p' M F W C [] (ms.set j false) ys ns ∧ Mv (p.own s) (p'.own s) w w' := by
  obtain ⟨c0, c1, c2, c3, c4, c5, c6, cf⟩ := h.seven
  have H := Lib.hid (sd_next_card _ _ _ M F W C ms w j h.look hj hn)
  have K := Lib.hid (fun w' S' sd mv => h.lookT (w' := w') (S' := S') (us := []) (ks := ms.set j false) sd mv h.xin)
  unfold sdV bfP tbP ptr fnV at *
  clear h c0 c1 c2 c5 c6 cf hj hn
  go_enter Tryz.func132, Tryz.ntmps132
  go_wp2_with fail
  refine H.out.mono ?_
  rintro e w1 ⟨rfl, S', sd, mv⟩
  have R := Lib.hid (K.out _ _ sd mv)
  clear sd mv K H
  go_wp2
  (try simp only [Exit.inBlock, Exit.then])
  refine bodyPost_ret (results_tmp4 rfl _ _ _) rfl ?_
  exact ⟨rfl, R.out⟩

set_option maxHeartbeats 2000000 in
theorem set_next_none (h : IsSet w s p M F W C [] ms ys ns) (hn : ∀ i : Nat, ms[i]? ≠ some true) :
    Calls Tryz.prog 132 #[ptr s] w fun e w' => e = .returned (.tuple #[.int .i64 0, .int .i64 0, .bool false, .bool false]) ∧ Below w.heap.size w w' := by
  obtain ⟨c0, c1, c2, c3, c4, c5, c6, cf⟩ := h.seven
  have H := Lib.hid (sd_next_none _ _ _ M F W C ms w h.look hn)
  unfold sdV bfP tbP ptr fnV at *
  clear h c0 c1 c2 c5 c6 cf hn
  go_enter Tryz.func132, Tryz.ntmps132
  go_wp2_with fail
  refine H.out.mono ?_
  rintro e w1 ⟨rfl, b1⟩
  have B := Lib.hid b1
  clear b1 H
  go_wp2
  (try simp only [Exit.inBlock, Exit.then])
  refine bodyPost_ret (results_tmp4 rfl _ _ _) rfl ?_
  exact ⟨rfl, B.out⟩

set_option maxHeartbeats 2000000 in
theorem set_flip_no (h : IsSet w s p M F W C xs ms ys ns) (hn : 0 < xs.length + ms.count true) :
    Calls Tryz.prog 101 #[ptr s] w fun e w' => e = .returned (.bool false) ∧ Below w.heap.size w w' := by
  have H := Lib.hid (set_left s p M F W C xs ys ms ns w h)
  obtain ⟨n, en⟩ : ∃ n, xs.length + ms.count true = n := ⟨_, rfl⟩
  rw [en] at H hn
  have d : decide ((n : Int) > 0) = true := decide_eq_true (by omega)
  have d2 : decide (0 < (n : Int)) = true := decide_eq_true (by omega)
  clear h en
  unfold ptr at *
  go_enter Tryz.func101, Tryz.ntmps101
  go_wp2_with fail
  refine H.out.mono ?_
  rintro e w1 ⟨rfl, b1⟩
  have B := Lib.hid b1
  clear b1 H
  go_wp2
  go_ret
  exact ⟨rfl, B.out⟩

set_option maxHeartbeats 8000000 in
theorem set_flip_yes (h : IsSet w s p M F W C [] ms ys ns) (hn : ms.count true = 0) :
    Calls Tryz.prog 101 #[ptr s] w fun e w' => e = .returned (.bool true) ∧ ∃ p', IsSet w' s p' M F W C ys ns [] (List.replicate (nmI W C) false) ∧ Mv (p.own s) (p'.own s) w w' := by
  have H := Lib.hid (set_left s p M F W C [] ys ms ns w h)
  rw [hn] at H
  have HH := Lib.hid h
  clear h hn
  unfold ptr at *
  go_enter Tryz.func101, Tryz.ntmps101
  go_wp2_with fail
  refine H.out.mono ?_
  rintro e w1 ⟨rfl, b1⟩
  have hd := HH.out.keep (below_trans b1 (below_drew w1))
  have H1 := Lib.hid hd
  have B1 := Lib.hid (below_trans b1 (below_drew w1))
  obtain ⟨c0, c1, c2, c3, c4, c5, c6, cf⟩ := (HH.out.keep b1).seven
  have HM := Lib.hid ((sd_make _ _ _ _ _ _ _ _ _ hd.caps).mono fun e w' ⟨b, t, he, fr, b2⟩ => (show ∃ b t, e = Ending.returned (sdV b t) ∧ Hid (Fresh w1.drew w' b t p.m p.f p.n p.c ∧ Below w1.drew.heap.size w1.drew w') ∧ Blk w' s #[.int .i64 p.X, .int .i64 p.Y, fnV p.k0 p.k1 p.k2 p.k3, bfP p.b1, tbP p.t1, bfP p.b2, tbP p.t2] 144 from
    ⟨b, t, he, Lib.hid ⟨fr, b2⟩, hd.blk.keep b2⟩))
  have hne := ne_fn
  have HT := Lib.hid (fun v2 b t (fr : Fresh w1.drew v2 b t p.m p.f p.n p.c) (b2 : Below w1.drew.heap.size w1.drew v2) (k : Blk v2 s #[.int .i64 p.X, .int .i64 p.Y, fnV p.k0 p.k1 p.k2 p.k3, bfP p.b1, tbP p.t1, bfP p.b2, tbP p.t2] 144) =>
    (show ∃ p', IsSet ((((v2.setCell ⟨s, 3, none⟩ (bfP p.b2)).setCell ⟨s, 4, none⟩ (tbP p.t2)).setCell ⟨s, 5, none⟩ (bfP b)).setCell ⟨s, 6, none⟩ (tbP t)) s p' M F W C ys ns [] (List.replicate (nmI W C) false) ∧ Mv (p.own s) (p'.own s) w ((((v2.setCell ⟨s, 3, none⟩ (bfP p.b2)).setCell ⟨s, 4, none⟩ (tbP p.t2)).setCell ⟨s, 5, none⟩ (bfP b)).setCell ⟨s, 6, none⟩ (tbP t)) from by
      obtain ⟨p', hp, mv⟩ := H1.out.turn b2 fr ((((k.set_ 3 (bfP p.b2)).set_ 4 (tbP p.t2)).set_ 5 (bfP b)).set_ 6 (tbP t)) (Frm.setCell (S := (· = s)) (Frm.setCell (S := (· = s)) (Frm.setCell (S := (· = s)) (Frm.setCell (S := (· = s)) (Frm.refl _ v2) (p := ⟨s, 3, none⟩) (fun _ => rfl) _) (p := ⟨s, 4, none⟩) (fun _ => rfl) _) (p := ⟨s, 5, none⟩) (fun _ => rfl) _) (p := ⟨s, 6, none⟩) (fun _ => rfl) _)
      exact ⟨p', hp, mv.pre B1.out⟩))
  have lt0 := hd.blk.lt
  clear b1 hd H HH c0 c1 B1
  unfold fnV bfP tbP ptr sdV at *
  go_wp2_with fail
  go_region_with (go_at_call 142; refine HM.out.mono ?_; rintro e v2 ⟨b, t, rfl, FR, k⟩; have q3 := k.cell 3; have q4 := k.cell 4; have q5 := k.cell 5; have q6 := k.cell 6; have qf := k.frozen; have KK := Lib.hid k; clear k)
  all_goals
    go_wp2
    go_ret
    exact ⟨rfl, HT.out _ _ _ FR.out.1 FR.out.2 KK.out⟩
end
end Go.Proofs.YthmhehehomieiaaGreat

/- The program's New, and all calls of none; a set made since some world, with blocks beside it. -/
namespace Go.Proofs.YthmhehehomieiaaGreat
open Go.RowKit

section
variable (w : World)

set_option maxHeartbeats 2000000 in
theorem space_any (f n : Int) :
    Calls Tryz.prog 109 #[.int .i64 f, .int .i64 n] w fun e w' => ∃ X Y, e = .returned (.tuple #[.int .i64 X, .int .i64 Y]) ∧ (∀ x, (X ≤ x ∧ x < Y) ↔ (cutI f 0 1048576 ≤ x ∧ x < cutI f 0 1048576 + cutI n 0 1048576)) ∧ Below w.heap.size w w' := by
  have HN := Lib.hid (cNew_any f n 1048576 w)
  have iN := cutI_in (n := n) (l := 0) (m := 1048576) (by omega)
  go_enter Tryz.func109, Tryz.ntmps109
  go_wp2_with fail
  refine HN.out.mono ?_
  rintro e w1 ⟨b, mb, rfl, g1, g2, ⟨N, hN, tb⟩, b1⟩
  have ec : cutI 1048576 1 1048576 = 1048576 := by decide
  rw [ec] at hN tb
  have B := Lib.hid b1
  have HT := Lib.hid tb
  clear b1 tb HN ec
  unfold tbP
  by_cases hz : cutI n 0 1048576 = 0
  · have e0 : N = 0 := by rw [hz] at hN; omega
    subst e0
    have HP := Lib.hid (cPart_no b mb _ _ _ _ _ 0 HT.out (.inr (by simp)))
    have HZ := Lib.hid hz
    clear HT hz hN
    go_wp2_with fail
    refine HP.out.mono ?_
    rintro e w2 ⟨rfl, rfl⟩
    clear HP
    go_wp2
    go_ret2
    exact ⟨_, _, rfl, fun x => by rw [HZ.out]; omega, B.out⟩
  · have e1 : N = 1 := by omega
    subst e1
    have HP := Lib.hid (cPart_yes b mb _ _ _ _ _ 0 HT.out (by omega) (by simp))
    have HE : Hid (endI (cutI f 0 1048576) (cutI n 0 1048576) 1048576 0 = cutI f 0 1048576 + cutI n 0 1048576) := Lib.hid (by unfold endI; split <;> omega)
    clear HT hz hN
    go_wp2_with fail
    refine HP.out.mono ?_
    rintro e w2 ⟨rfl, b2⟩
    have B2 := Lib.hid (below_trans B.out b2)
    clear HP b2 B
    go_wp2
    go_ret2
    exact ⟨_, _, rfl, fun x => by rw [HE.out] <;> omega, B2.out⟩

set_option maxHeartbeats 2000000 in
theorem maker_any (f n c m : Int) :
    Calls Tryz.prog 110 #[.int .i64 f, .int .i64 n, .int .i64 c, .int .i64 m] w fun e w' => e = .returned (fnV (w.heap.size + 3) w.heap.size (w.heap.size + 1) (w.heap.size + 2)) ∧ Caps w' (w.heap.size + 3) w.heap.size (w.heap.size + 1) (w.heap.size + 2) m f n c ∧ Below w.heap.size w w' := by
  have hmf : ∀ (fn : Fn) (first cap : Array Value) (w : World), (Instr.makeFunc fn first cap).run Tryz.prog w = .ok (.func fn first cap) w := fun _ _ _ _ => rfl
  have HC := Lib.hid (show Caps ((((w.alloc (.cells #[.int .i64 f] 3)).alloc (.cells #[.int .i64 n] 3)).alloc (.cells #[.int .i64 c] 3)).alloc (.cells #[.int .i64 m] 3)) (w.heap.size + 3) w.heap.size (w.heap.size + 1) (w.heap.size + 2) m f n c from
    ⟨by simpa using Blk.new (((w.alloc (.cells #[.int .i64 f] 3)).alloc (.cells #[.int .i64 n] 3)).alloc (.cells #[.int .i64 c] 3)) #[.int .i64 m] 3,
     (((Blk.new w #[.int .i64 f] 3).alloc _).alloc _).alloc _,
     by simpa using ((Blk.new (w.alloc (.cells #[.int .i64 f] 3)) #[.int .i64 n] 3).alloc (.cells #[.int .i64 c] 3)).alloc (.cells #[.int .i64 m] 3),
     by simpa using (Blk.new ((w.alloc (.cells #[.int .i64 f] 3)).alloc (.cells #[.int .i64 n] 3)) #[.int .i64 c] 3).alloc (.cells #[.int .i64 m] 3)⟩)
  go_enter Tryz.func110, Tryz.ntmps110
  go_wp2
  go_ret
  exact ⟨rfl, HC.out, ((((Below.refl _ _).alloc (Nat.le_refl _) _).alloc (by simp) _).alloc (by simp; omega) _).alloc (by simp; omega) _⟩

set_option maxHeartbeats 4000000 in
theorem set_new (f n c m : Int) :
    Calls Tryz.prog 65 #[.int .i64 f, .int .i64 n, .int .i64 c, .int .i64 m] w fun e w' => ∃ s p, e = .returned (ptr s) ∧
      IsSet w' s p (cutI m 0 1048576) (cutI f 0 1048576) (cutI n 0 1048576) (cutI c 1 1048576) [] (List.replicate (nmI (cutI n 0 1048576) (cutI c 1 1048576)) false) [] (List.replicate (nmI (cutI n 0 1048576) (cutI c 1 1048576)) false) ∧ Below w.heap.size w w' ∧ ∀ k, p.own s k → w.heap.size ≤ k := by
  have HS := Lib.hid (space_any w f n)
  go_enter Tryz.func65, Tryz.ntmps65
  go_wp2_with fail
  refine HS.out.mono ?_
  rintro e w1 ⟨X, Y, rfl, hin, b1⟩
  have IN := Lib.hid hin
  have B1 := Lib.hid b1
  clear HS hin b1
  go_wp2_with fail
  refine (maker_any w1 f n c m).mono ?_
  rintro e w2 ⟨rfl, cp, b2⟩
  obtain ⟨k0, e0⟩ : ∃ k, w1.heap.size + 3 = k := ⟨_, rfl⟩
  obtain ⟨k1, e1⟩ : ∃ k, w1.heap.size = k := ⟨_, rfl⟩
  obtain ⟨k2, e2⟩ : ∃ k, w1.heap.size + 1 = k := ⟨_, rfl⟩
  obtain ⟨k3, e3⟩ : ∃ k, w1.heap.size + 2 = k := ⟨_, rfl⟩
  have LK : Hid (w.heap.size ≤ k0 ∧ w.heap.size ≤ k1 ∧ w.heap.size ≤ k2 ∧ w.heap.size ≤ k3) := Lib.hid (by have := B1.out.size; omega)
  rw [e0, e2, e3] at cp ⊢
  rw [e1] at cp ⊢
  have CP := Lib.hid cp
  have L2 := Lib.hid (And.intro cp.b0.lt (And.intro cp.b1.lt (And.intro cp.b2.lt cp.b3.lt)))
  have B2 := Lib.hid (below_trans B1.out b2)
  clear cp b2 B1 e0 e1 e2 e3
  unfold fnV ptr
  go_wp2_with fail
  refine (sd_make _ _ _ _ _ _ _ _ _ CP.out).mono ?_
  rintro e w3 ⟨u1, t1, rfl, f1, b3⟩
  have CP := Lib.hid (CP.out.keep b3)
  have F1 := Lib.hid f1
  have B3 := Lib.hid b3
  clear f1 b3
  unfold sdV bfP tbP
  go_wp2_with fail
  refine (sd_make _ _ _ _ _ _ _ _ _ CP.out).mono ?_
  rintro e w4 ⟨u2, t2, rfl, f2, b4⟩
  have CP := Lib.hid (CP.out.keep b4)
  have F2 := Lib.hid f2
  have B4 := Lib.hid b4
  clear f2 b4
  unfold sdV bfP tbP
  go_wp2
  go_ret
  have s2 := B2.out.size
  have s3 := B3.out.size
  have s4 := B4.out.size
  have ba : Below w4.heap.size w4 (w4.alloc (.cells #[.int .i64 X, .int .i64 Y, fnV k0 k1 k2 k3, bfP u1, tbP t1, bfP u2, tbP t2] 144)) := (Below.refl _ _).alloc (Nat.le_refl _) _
  have lk := LK.out
  have l0 := CP.out.b0.lt
  have l1 := CP.out.b1.lt
  have l2 := CP.out.b2.lt
  have l3 := CP.out.b3.lt
  have g1 : Fresh w2 w3 u1 t1 m f n c := F1.out
  have g2 : Fresh w3 w4 u2 t2 m f n c := F2.out
  unfold Fresh at g1 g2
  refine ⟨w4.heap.size, { X := X, Y := Y, m := m, f := f, n := n, c := c, k0 := k0, k1 := k1, k2 := k2, k3 := k3, b1 := u1, t1 := t1, b2 := u2, t2 := t2, S1 := fun k => w2.heap.size ≤ k ∧ k < w3.heap.size, S2 := fun k => w3.heap.size ≤ k ∧ k < w4.heap.size }, rfl, ⟨Blk.new _ _ _, CP.out.keep ba, rfl, rfl, rfl, rfl, IN.out, ?_, ?_, ?_, ?_, ?_, ?_⟩, ?_, ?_⟩
  · exact (g1.keep B4.out).keep ba
  · exact g2.keep ba
  · rintro k ⟨_, h1⟩ ⟨h2, _⟩
    omega
  · have e2 := L2.out
    rintro k (⟨h1, h2⟩ | ⟨h1, h2⟩)
    · exact ⟨fun z => by omega, fun z => by simp only at z; omega, fun z => by simp only at z; omega, fun z => by simp only at z; omega, fun z => by simp only at z; omega⟩
    · exact ⟨fun z => by omega, fun z => by simp only at z; omega, fun z => by simp only at z; omega, fun z => by simp only at z; omega, fun z => by simp only at z; omega⟩
  · intro x hx; cases hx
  · intro x hx; cases hx
  · exact below_trans (below_trans (below_trans B2.out B3.out) B4.out) ba
  · rintro k (e | e | e | e | e | ⟨e, _⟩ | ⟨e, _⟩)
    · omega
    · simp only at e; omega
    · simp only at e; omega
    · simp only at e; omega
    · simp only at e; omega
    · omega
    · omega
end
end Go.Proofs.YthmhehehomieiaaGreat

/- Blocks that a call leaves as they were; of no program's own. -/
namespace Go.Proofs.YthmhehehomieiaaGreat
open Go.RowKit

/-- Blocks of Z are as they were. -/
def Kp (Z : Nat → Prop) (w w' : World) : Prop := Frm (fun k => ¬ Z k) w w'

theorem Kp.of_below {Z : Nat → Prop} {w w' : World} (h : Below w.heap.size w w') : Kp Z w w' := Frm.of_below h
theorem Kp.trans {Z : Nat → Prop} {a b c : World} (h : Kp Z a b) (k : Kp Z b c) : Kp Z a c := Frm.trans h k fun _ _ e => e
theorem Blk.kp {Z : Nat → Prop} {w w' : World} {b : Nat} {cs : Array Value} {t : TypeId} (h : Blk w b cs t) (k : Kp Z w w') (hz : Z b) : Blk w' b cs t := h.frm k fun e => e hz
theorem Qu.kp {Z : Nat → Prop} {w w' : World} {A : Option Addr} {n c : Nat} {xs : List Int} (h : Qu w A n c xs) (k : Kp Z w w') (hz : ∀ k, blkOf A = some k → Z k) : Qu w' A n c xs := h.frm k fun j hj e => e (hz j hj)
/-- Nothing is beside it. -/
abbrev noZ : Nat → Prop := fun _ => False
end Go.Proofs.YthmhehehomieiaaGreat

/- A set made since some world, with blocks beside it that it leaves; all calls of none; awake, RemsetNone. -/
namespace Go.Proofs.YthmhehehomieiaaGreat
open Go.RowKit

/-- Block s is a set made since w0; no block of Z is its own; what there was is as it was. -/
structure Rz (w0 w : World) (Z : Nat → Prop) (s : Nat) (M F W C : Int) (xs : List Int) (ms : List Bool) (ys : List Int) (ns : List Bool) : Prop where
  is : ∃ p, IsSet w s p M F W C xs ms ys ns ∧ ∀ k, p.own s k → w0.heap.size ≤ k ∧ ¬ Z k
  bel : Below w0.heap.size w0 w
  low : ∀ k, Z k → w0.heap.size ≤ k ∧ k < w.heap.size

section
variable {w0 w w' : World} {Z Z' : Nat → Prop} {s : Nat} {M F W C : Int} {xs ys : List Int} {ms ns : List Bool}

theorem Rz.keep (h : Rz w0 w Z s M F W C xs ms ys ns) (f : Below w.heap.size w w') : Rz w0 w' Z s M F W C xs ms ys ns := by
  obtain ⟨p, hp, ho⟩ := h.is
  exact ⟨⟨p, hp.keep f, ho⟩, below_trans h.bel f, fun k hk => ⟨(h.low k hk).1, Nat.lt_of_lt_of_le (h.low k hk).2 f.size⟩⟩

/-- New blocks are beside it. -/
theorem Rz.grow (h : Rz w0 w Z s M F W C xs ms ys ns) (f : Below w.heap.size w w') (hz : ∀ k, Z' k → Z k ∨ (w.heap.size ≤ k ∧ k < w'.heap.size)) : Rz w0 w' Z' s M F W C xs ms ys ns := by
  obtain ⟨p, hp, ho⟩ := h.is
  refine ⟨⟨p, hp.keep f, fun k hk => ⟨(ho k hk).1, fun e => ?_⟩⟩, below_trans h.bel f, fun k hk => ?_⟩
  · rcases hz k e with e | e
    · exact (ho k hk).2 e
    · have := hp.lt hk; omega
  · rcases hz k hk with e | e
    · exact ⟨(h.low k e).1, Nat.lt_of_lt_of_le (h.low k e).2 f.size⟩
    · exact ⟨Nat.le_trans h.bel.size e.1, e.2⟩

/-- What is beside it has been written to. -/
theorem Rz.write {S : Nat → Prop} (h : Rz w0 w Z s M F W C xs ms ys ns) (f : Frm S w w') (hs : ∀ k, k < w.heap.size → S k → Z k) (hz : ∀ k, Z' k → Z k ∨ (w.heap.size ≤ k ∧ k < w'.heap.size)) : Rz w0 w' Z' s M F W C xs ms ys ns := by
  obtain ⟨p, hp, ho⟩ := h.is
  refine ⟨⟨p, hp.frm f fun k hk e => (ho k hk).2 (hs k (hp.lt hk) e), fun k hk => ⟨(ho k hk).1, fun e => ?_⟩⟩, Below.frm h.bel f h.bel.size (fun k hk e => ?_), fun k hk => ?_⟩
  · rcases hz k e with e | e
    · exact (ho k hk).2 e
    · have := hp.lt hk; omega
  · have := (h.low k (hs k (Nat.lt_of_lt_of_le hk h.bel.size) e)).1; omega
  · rcases hz k hk with e | e
    · exact ⟨(h.low k e).1, Nat.lt_of_lt_of_le (h.low k e).2 f.size⟩
    · exact ⟨Nat.le_trans h.bel.size e.1, e.2⟩

theorem Rz.step {us vs : List Int} {ks js : List Bool} {p : Pt} (_ : IsSet w s p M F W C xs ms ys ns) (ho : ∀ k, p.own s k → w0.heap.size ≤ k ∧ ¬ Z k) (bel : Below w0.heap.size w0 w) (low : ∀ k, Z k → w0.heap.size ≤ k ∧ k < w.heap.size)
    (h' : ∃ p', IsSet w' s p' M F W C us ks vs js ∧ Mv (p.own s) (p'.own s) w w') : Rz w0 w' Z s M F W C us ks vs js ∧ Kp Z w w' := by
  obtain ⟨p', hp', mv⟩ := h'
  refine ⟨⟨⟨p', hp', fun k hk => ?_⟩, Below.frm bel mv.frm bel.size (fun k hk e => by have := (ho k e).1; omega), fun k hk => ⟨(low k hk).1, Nat.lt_of_lt_of_le (low k hk).2 mv.frm.size⟩⟩, mv.frm.mono fun i _ e => (ho i e).2⟩
  rcases mv.at_ k hk with e | e
  · exact ho k e
  · exact ⟨Nat.le_trans bel.size e, fun z => by have := (low k z).2; omega⟩

/-- What is told of a set's numbers. -/
theorem Rz.facts (h : Rz w0 w Z s M F W C xs ms ys ns) : (0 ≤ F ∧ F ≤ 1048576 ∧ 0 ≤ W ∧ W ≤ 1048576 ∧ 1 ≤ C ∧ C ≤ 1048576 ∧ 0 ≤ M ∧ M ≤ 1048576) ∧ ((ms.length : Int) = (W + C - 1) / C ∧ (ns.length : Int) = (W + C - 1) / C) ∧ ((xs.length : Int) ≤ M ∧ (ys.length : Int) ≤ M) := by
  obtain ⟨p, hp, ho⟩ := h.is
  obtain ⟨mb, tb, _⟩ := hp.look.tab
  obtain ⟨mb2, tb2, _⟩ := hp.rest.tab
  obtain ⟨A, c, bf, _⟩ := hp.look.buf
  exact ⟨⟨tb.f0, tb.f1, tb.w0, tb.w1, tb.c0, tb.c1, bf.m0, bf.m1⟩, ⟨tb.len, tb2.len⟩, hp.look.room, hp.rest.room⟩
theorem Rz.xin (h : Rz w0 w Z s M F W C xs ms ys ns) : ∀ x ∈ xs, F ≤ x ∧ x < F + W := by obtain ⟨p, hp, ho⟩ := h.is; exact hp.xin
theorem Rz.yin (h : Rz w0 w Z s M F W C xs ms ys ns) : ∀ x ∈ ys, F ≤ x ∧ x < F + W := by obtain ⟨p, hp, ho⟩ := h.is; exact hp.yin

/-- A place's card. -/
theorem Rz.at_ (h : Rz w0 w Z s M F W C xs ms ys ns) {x : Int} (x0 : F ≤ x) (x1 : x < F + W) : 0 ≤ (x - F) / C ∧ (x - F) / C < ns.length := by
  obtain ⟨p, hp, ho⟩ := h.is
  obtain ⟨mb2, tb2, _⟩ := hp.rest.tab
  exact tb2.at_ x0 x1
/-- A card's place. -/
theorem Rz.part (h : Rz w0 w Z s M F W C xs ms ys ns) {n : Int} (n0 : 0 ≤ n) (n1 : n < ms.length) : 0 ≤ n * C ∧ n * C < W := by
  obtain ⟨p, hp, ho⟩ := h.is
  obtain ⟨mb, tb, _⟩ := hp.look.tab
  exact tb.part n0 n1

theorem rz_new (f n c m : Int) (bel : Below w0.heap.size w0 w) (low : ∀ k, Z k → w0.heap.size ≤ k ∧ k < w.heap.size) :
    Calls Tryz.prog 65 #[.int .i64 f, .int .i64 n, .int .i64 c, .int .i64 m] w fun e w' => ∃ s, e = .returned (ptr s) ∧
      Rz w0 w' Z s (cutI m 0 1048576) (cutI f 0 1048576) (cutI n 0 1048576) (cutI c 1 1048576) [] (List.replicate (nmI (cutI n 0 1048576) (cutI c 1 1048576)) false) [] (List.replicate (nmI (cutI n 0 1048576) (cutI c 1 1048576)) false) ∧ Kp Z w w' :=
  (set_new w f n c m).mono fun e w' ⟨s, p, he, hp, b, hk⟩ => ⟨s, he, ⟨⟨p, hp, fun k hk' => ⟨Nat.le_trans bel.size (hk k hk'), fun z => by have := (low k z).2; have := hk k hk'; omega⟩⟩, below_trans bel b, fun k hk => ⟨(low k hk).1, Nat.lt_of_lt_of_le (low k hk).2 b.size⟩⟩, Kp.of_below b⟩

theorem rz_left (h : Rz w0 w Z s M F W C xs ms ys ns) :
    Calls Tryz.prog 138 #[ptr s] w fun e w' => e = .returned (.int .i64 (xs.length + ms.count true : Nat)) ∧ Rz w0 w' Z s M F W C xs ms ys ns ∧ Kp Z w w' := by
  obtain ⟨p, hp, ho⟩ := h.is
  exact (set_left s p M F W C xs ys ms ns w hp).mono fun e w' ⟨he, b⟩ => ⟨he, h.keep b, Kp.of_below b⟩

theorem rz_len (h : Rz w0 w Z s M F W C xs ms ys ns) :
    Calls Tryz.prog 39 #[ptr s] w fun e w' => e = .returned (.int .i64 (ys.length + ns.count true : Nat)) ∧ Rz w0 w' Z s M F W C xs ms ys ns ∧ Kp Z w w' := by
  obtain ⟨p, hp, ho⟩ := h.is
  exact (set_len s p M F W C xs ys ms ns w hp).mono fun e w' ⟨he, b⟩ => ⟨he, h.keep b, Kp.of_below b⟩

theorem rz_add_no (x : Int) (h : Rz w0 w Z s M F W C xs ms ys ns) (hx : ¬ (F ≤ x ∧ x < F + W)) :
    Calls Tryz.prog 79 #[ptr s, .int .i64 x] w fun e w' => e = .returned (.bool false) ∧ w = w' := by
  obtain ⟨p, hp, ho⟩ := h.is
  exact set_add_no s p M F W C xs ys ms ns w x hp hx

theorem rz_add_put (x : Int) (h : Rz w0 w Z s M F W C xs ms ys ns) (x0 : F ≤ x) (x1 : x < F + W) (hn : (ys.length : Int) < M) :
    Calls Tryz.prog 79 #[ptr s, .int .i64 x] w fun e w' => e = .returned (.bool true) ∧ Rz w0 w' Z s M F W C xs ms (ys ++ [x]) ns ∧ Kp Z w w' := by
  obtain ⟨p, hp, ho⟩ := h.is
  exact (set_add_put s p M F W C xs ys ms ns w x hp x0 x1 hn).mono fun e w' ⟨he, h'⟩ => ⟨he, Rz.step hp ho h.bel h.low h'⟩

theorem rz_add_mark (x : Int) (j : Nat) (h : Rz w0 w Z s M F W C xs ms ys ns) (x0 : F ≤ x) (x1 : x < F + W) (hn : M ≤ ys.length) (hj : (x - F) / C = j) :
    Calls Tryz.prog 79 #[ptr s, .int .i64 x] w fun e w' => e = .returned (.bool true) ∧ Rz w0 w' Z s M F W C xs ms ys (ns.set j true) ∧ Kp Z w w' := by
  obtain ⟨p, hp, ho⟩ := h.is
  exact (set_add_mark s p M F W C xs ys ms ns w x j hp x0 x1 hn hj).mono fun e w' ⟨he, h'⟩ => ⟨he, Rz.step hp ho h.bel h.low h'⟩

theorem rz_flip_no (h : Rz w0 w Z s M F W C xs ms ys ns) (hn : 0 < xs.length + ms.count true) :
    Calls Tryz.prog 101 #[ptr s] w fun e w' => e = .returned (.bool false) ∧ Rz w0 w' Z s M F W C xs ms ys ns ∧ Kp Z w w' := by
  obtain ⟨p, hp, ho⟩ := h.is
  exact (set_flip_no s p M F W C xs ys ms ns w hp hn).mono fun e w' ⟨he, b⟩ => ⟨he, h.keep b, Kp.of_below b⟩

theorem rz_flip_yes (h : Rz w0 w Z s M F W C xs ms ys ns) (hn : xs.length + ms.count true = 0) :
    Calls Tryz.prog 101 #[ptr s] w fun e w' => e = .returned (.bool true) ∧ Rz w0 w' Z s M F W C ys ns [] (List.replicate (nmI W C) false) ∧ Kp Z w w' := by
  obtain ⟨p, hp, ho⟩ := h.is
  obtain rfl : xs = [] := List.eq_nil_of_length_eq_zero (by omega)
  exact (set_flip_yes s p M F W C ys ms ns w hp (by omega)).mono fun e w' ⟨he, h'⟩ => ⟨he, Rz.step hp ho h.bel h.low h'⟩

theorem rz_next_buf (x : Int) (h : Rz w0 w Z s M F W C (x :: xs) ms ys ns) :
    Calls Tryz.prog 132 #[ptr s] w fun e w' => e = .returned (.tuple #[.int .i64 x, .int .i64 (x + 1), .bool false, .bool true]) ∧ Rz w0 w' Z s M F W C xs ms ys ns ∧ Kp Z w w' := by
  obtain ⟨p, hp, ho⟩ := h.is
  exact (set_next_buf s p M F W C xs ys ms ns w x hp).mono fun e w' ⟨he, h'⟩ => ⟨he, Rz.step hp ho h.bel h.low h'⟩

theorem rz_next_card (j : Nat) (h : Rz w0 w Z s M F W C [] ms ys ns) (hj : ms[j]? = some true) (hn : ∀ i : Nat, i < j → ms[i]? = some false) :
    Calls Tryz.prog 132 #[ptr s] w fun e w' => e = .returned (.tuple #[.int .i64 (F + j * C), .int .i64 (endI F W C j), .bool true, .bool true]) ∧ Rz w0 w' Z s M F W C [] (ms.set j false) ys ns ∧ Kp Z w w' := by
  obtain ⟨p, hp, ho⟩ := h.is
  exact (set_next_card s p M F W C ys ms ns w j hp hj hn).mono fun e w' ⟨he, h'⟩ => ⟨he, Rz.step hp ho h.bel h.low h'⟩

theorem rz_next_none (h : Rz w0 w Z s M F W C xs ms ys ns) (hn : xs.length + ms.count true = 0) :
    Calls Tryz.prog 132 #[ptr s] w fun e w' => e = .returned (.tuple #[.int .i64 0, .int .i64 0, .bool false, .bool false]) ∧ Rz w0 w' Z s M F W C xs ms ys ns ∧ Kp Z w w' := by
  obtain ⟨p, hp, ho⟩ := h.is
  obtain rfl : xs = [] := List.eq_nil_of_length_eq_zero (by omega)
  have h0 : ∀ i : Nat, ms[i]? ≠ some true := fun i e => by
    have := List.count_eq_zero.1 (show ms.count true = 0 by omega)
    exact this (List.mem_of_getElem? e)
  exact (set_next_none s p M F W C ys ms ns w hp h0).mono fun e w' ⟨he, b⟩ => ⟨he, h.keep b, Kp.of_below b⟩
end

/-- The first that is set. -/
theorem first_true {ms : List Bool} (h : 0 < ms.count true) : ∃ j : Nat, j < ms.length ∧ ms[j]? = some true ∧ ∀ i : Nat, i < j → ms[i]? = some false := by
  induction ms with
  | nil => simp at h
  | cons x ms ih =>
    cases x
    · obtain ⟨j, hl, hj, hn⟩ := ih (by simpa using h)
      refine ⟨j + 1, by simp; omega, by simpa using hj, fun i hi => ?_⟩
      cases i with
      | zero => rfl
      | succ i => simpa using hn i (by omega)
    · exact ⟨0, by simp, rfl, fun i hi => by omega⟩

section
variable (w : World)
set_option maxHeartbeats 1000000 in
theorem left_nil : Calls Tryz.prog 138 #[.pointer none] w fun e w' => e = .returned (.int .i64 0) ∧ w = w' := by
  go_enter Tryz.func138, Tryz.ntmps138
  go_wp2
  go_ret
  exact ⟨rfl, rfl⟩
set_option maxHeartbeats 1000000 in
theorem rLen_nil : Calls Tryz.prog 39 #[.pointer none] w fun e w' => e = .returned (.int .i64 0) ∧ w = w' := by
  go_enter Tryz.func39, Tryz.ntmps39
  go_wp2
  go_ret
  exact ⟨rfl, rfl⟩
set_option maxHeartbeats 1000000 in
theorem add_nil (x : Int) : Calls Tryz.prog 79 #[.pointer none, .int .i64 x] w fun e w' => e = .returned (.bool false) ∧ w = w' := by
  go_enter Tryz.func79, Tryz.ntmps79
  go_wp2
  go_ret
  exact ⟨rfl, rfl⟩
set_option maxHeartbeats 1000000 in
theorem flip_nil : Calls Tryz.prog 101 #[.pointer none] w fun e w' => e = .returned (.bool false) ∧ w = w' := by
  go_enter Tryz.func101, Tryz.ntmps101
  go_wp2
  go_ret
  exact ⟨rfl, rfl⟩
set_option maxHeartbeats 1000000 in
theorem next_nil : Calls Tryz.prog 132 #[.pointer none] w fun e w' => e = .returned (.tuple #[.int .i64 0, .int .i64 0, .bool false, .bool false]) ∧ w = w' := by
  go_enter Tryz.func132, Tryz.ntmps132
  go_wp2
  (try simp only [Exit.inBlock, Exit.then])
  refine bodyPost_ret (results_tmp4 rfl _ _ _) rfl ?_
  exact ⟨rfl, rfl⟩
end

end Go.Proofs.YthmhehehomieiaaGreat

/- A slice of ints that lies anywhere in a block of its own: cut at its end, copied behind a new one; of no program's own functions. -/
namespace Go.Proofs.YthmhehehomieiaaGreat
open Go.RowKit

section
variable {w : World} {A : Option Addr} {n c : Nat} {xs : List Int}

/-- Its end cut off. -/
theorem Qu.upto (h : Qu w A n c xs) {m : Nat} (hm : m ≤ n) : Qu w A m c (xs.take m) := by
  refine ⟨by rw [List.length_take, h.len]; omega, Nat.le_trans hm h.le, h.max, h.lies.imp id ?_⟩
  rintro ⟨g, off, cs, rfl, hb, hs, hx⟩
  refine ⟨g, off, cs, rfl, hb, hs, fun i x hi => hx i x ?_⟩
  rw [List.getElem?_take] at hi
  split at hi
  · exact hi
  · cases hi

theorem Qu.but {x : Int} (h : Qu w A (n + 1) c (xs ++ [x])) : Qu w A n c xs := by
  have hl : xs.length = n := by have := h.len; simp at this; exact this
  have q := h.upto (m := n) (by omega)
  rwa [List.take_left' hl] at q

theorem Qu.none_ (h : Qu w A n c xs) : Qu w A 0 c [] := h.upto (m := 0) (Nat.zero_le _)

/-- All of it appended to a new slice without room: a copy. -/
theorem Qu.clone (h : Qu w A n c xs) (few : n ≤ 1048576) (g0 : Nat) (hg : Blk w g0 #[] 3) (ty : TypeId) :
    ∃ A' c' w', (Builtin.append_ #[39, 39] ty #[.slice (some ⟨g0, 0, none⟩) 0 0, .slice A n c]).run Tryz.prog w = .ok (.slice A' n c') w' ∧ Qu w' A' n c' xs ∧ Below w.heap.size w w' ∧ (∀ k, blkOf A' = some k → k = g0 ∨ w.heap.size ≤ k) := by
  obtain ⟨i0, hi, hz, hs, hby⟩ := info_parts info_int
  by_cases hn : n = 0
  · subst hn
    have hx0 : xs = [] := List.eq_nil_of_length_eq_zero h.len
    subst hx0
    refine ⟨some ⟨g0, 0, none⟩, 0, w, ?_, ⟨rfl, Nat.le_refl _, Nat.zero_le _, .inr ⟨g0, 0, #[], rfl, hg, Nat.le_refl _, fun i x hx => by simp at hx⟩⟩, Below.refl _ _, fun k hk => by cases hk; exact .inl rfl⟩
    cases A <;> simp [Builtin.append_, run_underlying Tryz.underlying39, sizeOf, typeInfo, hi, Builtin.lenOf, Builtin.firstCells, storeCells, loadCells, loadCellsFrom]
  · rcases h.lies with ⟨rfl, rfl⟩ | ⟨g, off, cs, rfl, hb, hsz, hx⟩
    · exact absurd h.le (by omega)
    · have hnews : ∀ j u, (ints xs)[j]? = some u → w.cell? ((⟨g, off, none⟩ : Addr).add j) = some u := by
        intro j u hj
        rw [Addr.add_lit, hb.cell]
        rw [ints, List.getElem?_map] at hj
        cases e : xs[j]? with
        | none => rw [e] at hj; cases hj
        | some y => rw [e] at hj; cases hj; exact hx j y e
      obtain ⟨v', w', hrun, r1, r2⟩ := run_append_arg_grows (P := Tryz.prog) w 39 ty 3 i0 (.int .i64 0) 1 8 Tryz.underlying39 hi hz hs hby rfl (by decide) ⟨g0, 0, none⟩ 0 0 [] rfl
        (fun j u hj => by simp at hj) ⟨g, off, none⟩ n c (ints xs) (by rw [ints, List.length_map, h.len]; omega) hnews (by omega) (by unfold maxLen; omega) (by omega)
      rw [Nat.zero_add, List.nil_append] at r1
      obtain ⟨g', cap, rfl, hB, q⟩ := Qu.of_own hn r1
      exact ⟨_, _, w', hrun, q, below_none r2, fun k hk => by cases hk; exact .inr hB⟩
end

theorem wpList_clone_qu (w : World) {ops : Array Oper} {rest : List Oper} {o : Oper} {a : Act} {Q : Exit → Act → World → Prop} (hgd : o.guard = none) (s x : Operand)
    (ho : o.op = .call { callee := .builtin .append, args := #[s, x], argTypes := #[39, 39] }) {A : Option Addr} {n c : Nat} {xs : List Int} (h : Qu w A n c xs) (few : n ≤ 1048576) (g0 : Nat) (hg : Blk w g0 #[] 3)
    (hs : a.eval s = .slice (some ⟨g0, 0, none⟩) 0 0) (hx : a.eval x = .slice A n c)
    (hK : ∀ A' c' w', Qu w' A' n c' xs → Below w.heap.size w w' → (∀ k, blkOf A' = some k → k = g0 ∨ w.heap.size ≤ k) → wpList Tryz.prog ops Q rest (a.put o.dst (.slice A' n c')) w') : wpList Tryz.prog ops Q (o :: rest) a w := by
  refine wpList_plain hgd fun K hK' => ?_
  obtain ⟨A', c', w', hrun, q, g, hf⟩ := h.clone few g0 hg o.type
  unfold Oper.wp execOp
  simp only [ho, resolve, invoke, builtin, Sem.run_bind, Sem.run_pure, Result.andThen_ok, List.map_toArray, List.map_cons, List.map_nil, hs, hx, hrun]
  exact hK' _ _ (hK A' c' w' q g hf)

/-- One of its numbers is written anew. -/
theorem Qu.put {w : World} {g off n c : Nat} {xs : List Int} (h : Qu w (some ⟨g, off, none⟩) n c xs) (i : Nat) (x : Int) : Qu (w.setCell ⟨g, off + i, none⟩ (.int .i64 x)) (some ⟨g, off, none⟩) n c (xs.set i x) := by
  refine ⟨by rw [List.length_set]; exact h.len, h.le, h.max, .inr ?_⟩
  rcases h.lies with ⟨e, _⟩ | ⟨g', off', cs, e, hb, hs, hx⟩
  · cases e
  · cases e
    refine ⟨g, off, _, rfl, hb.set_ (off + i) _, by simpa using hs, fun j y hy => ?_⟩
    rw [List.getElem?_set] at hy
    rw [Array.getElem?_setIfInBounds]
    split at hy
    · rename_i e
      subst e
      split at hy
      · rename_i hl
        cases hy
        have := h.len
        have := h.le
        rw [if_pos rfl, if_pos (by omega)]
      · cases hy
    · rw [if_neg (by omega)]
      exact hx j y hy
end Go.Proofs.YthmhehehomieiaaGreat

/- A stack in memory; contracts of the program's New, Len, Lost, Found, Pop, Push. -/
namespace Go.Proofs.YthmhehehomieiaaGreat
open Go.RowKit

/-- Block b is a stack with room for M, whose slice (A, n, c) holds xs; l: something is lost. -/
structure IsGr (w : World) (b : Nat) (M : Int) (l : Bool) (A : Option Addr) (n c : Nat) (xs : List Int) : Prop where
  blk : Blk w b #[.slice A n c, .int .i64 M, .bool l] 137
  row : Qu w A n c xs
  m0 : 0 ≤ M
  m1 : M ≤ 1048576
  few : (n : Int) ≤ M

abbrev grP (b : Nat) : Value := .pointer (some ⟨b, 0, none⟩)

/-- Only the stack has turned; its slice lies where it lay, or in a new block. -/
structure GrT (b : Nat) (A A' : Option Addr) (w w' : World) : Prop where
  frm : Frm (fun k => k = b ∨ blkOf A = some k) w w'
  at_ : ∀ k, blkOf A' = some k → blkOf A = some k ∨ w.heap.size ≤ k

theorem GrT.of_below {b : Nat} {A : Option Addr} {w w' : World} (h : Below w.heap.size w w') : GrT b A A w w' := ⟨Frm.of_below h, fun _ hk => .inl hk⟩
theorem GrT.trans {b : Nat} {A B C : Option Addr} {u v w : World} (h : GrT b A B u v) (k : GrT b B C v w) : GrT b A C u w :=
  ⟨h.frm.trans k.frm (fun i hi e => e.imp id fun e => (h.at_ i e).resolve_right (by omega)), fun i e => (k.at_ i e).elim (fun e => h.at_ i e) fun e => .inr (Nat.le_trans h.frm.size e)⟩

section
variable {w w' : World} {b : Nat} {M : Int} {l : Bool} {A : Option Addr} {n c : Nat} {xs : List Int}
theorem IsGr.ne (h : IsGr w b M l A n c xs) {k : Nat} (hk : blkOf A = some k) : b ≠ k := by
  rcases h.row.lies with ⟨rfl, _⟩ | ⟨g, off, cs, rfl, hb, _⟩
  · cases hk
  · cases hk
    exact Blk.ne_ h.blk hb (by decide)
theorem IsGr.lt (h : IsGr w b M l A n c xs) : b < w.heap.size := h.blk.lt
theorem IsGr.keep (h : IsGr w b M l A n c xs) (f : Below w.heap.size w w') : IsGr w' b M l A n c xs := { h with blk := h.blk.keep f, row := h.row.keep f }
theorem IsGr.frm {S : Nat → Prop} (h : IsGr w b M l A n c xs) (f : Frm S w w') (hb : ¬ S b) (hs : ∀ k, blkOf A = some k → ¬ S k) : IsGr w' b M l A n c xs := { h with blk := h.blk.frm f hb, row := h.row.frm f hs }
theorem IsGr.three (h : IsGr w b M l A n c xs) : w.cell? ⟨b, 0, none⟩ = some (.slice A n c) ∧ w.cell? ⟨b, 1, none⟩ = some (.int .i64 M) ∧ w.cell? ⟨b, 2, none⟩ = some (.bool l) ∧ (∀ i, w.frozen? ⟨b, i, none⟩ = false) := ⟨h.blk.cell 0, h.blk.cell 1, h.blk.cell 2, h.blk.frozen⟩

/-- A stack's slice is laid anew. -/
theorem IsGr.set {A' : Option Addr} {n' c' : Nat} {xs' : List Int} (h : IsGr w b M l A n c xs) (q : Qu w A' n' c' xs') (few : (n' : Int) ≤ M) :
    IsGr (w.setCell ⟨b, 0, none⟩ (.slice A' n' c')) b M l A' n' c' xs' :=
  ⟨h.blk.set_ 0 _, q.frm (S := fun k => k = b) (Frm.setCell (S := fun k => k = b) (Frm.refl _ _) (p := ⟨b, 0, none⟩) (fun _ => rfl) _) (fun k hk e => by
    subst e
    rcases q.lies with ⟨rfl, _⟩ | ⟨g, off, cs, rfl, hb, _⟩
    · cases hk
    · cases hk
      exact Blk.ne_ h.blk hb (by decide) rfl), h.m0, h.m1, few⟩

/-- Whether something is lost is said anew. -/
theorem IsGr.say (h : IsGr w b M l A n c xs) (l' : Bool) : IsGr (w.setCell ⟨b, 2, none⟩ (.bool l')) b M l' A n c xs :=
  ⟨h.blk.set_ 2 _, h.row.frm (S := fun k => k = b) (Frm.setCell (S := fun k => k = b) (Frm.refl _ _) (p := ⟨b, 2, none⟩) (fun _ => rfl) _) (fun _ hk e => h.ne hk e.symm), h.m0, h.m1, h.few⟩

theorem GrT.set (i : Nat) (u : Value) : GrT b A A w (w.setCell ⟨b, i, none⟩ u) := ⟨(Frm.refl _ _).setCell (fun _ => .inl rfl) _, fun _ hk => .inl hk⟩
end

set_option maxHeartbeats 1000000 in
theorem grNew_any (m : Int) (w : World) :
    Calls Tryz.prog 66 #[.int .i64 m] w fun e w' => e = .returned (grP w.heap.size) ∧ IsGr w' w.heap.size (cutI m 0 1048576) false none 0 0 [] ∧ Below w.heap.size w w' := by
  have key := Lib.hid (show ∀ K : Int, cutI m 0 1048576 = K → IsGr (w.alloc (.cells #[.slice none 0 0, .int .i64 K, .bool false] 137)) w.heap.size (cutI m 0 1048576) false none 0 0 [] from by
    rintro _ rfl
    exact ⟨Blk.new _ _ _, Qu.nil _, (cutI_in (by decide)).1, (cutI_in (by decide)).2, (cutI_in (by decide)).1⟩)
  go_enter Tryz.func66, Tryz.ntmps66
  go_wp2
  all_goals
    go_ret
    exact ⟨rfl, key.out _ (by unfold cutI; split <;> (try split) <;> omega), (Below.refl _ _).alloc (Nat.le_refl _) _⟩

section
variable (b : Nat) (M : Int) (l : Bool) (A : Option Addr) (n c : Nat) (xs : List Int) (x : Int) (w : World)

set_option maxHeartbeats 1000000 in
theorem grLen_any (h : IsGr w b M l A n c xs) :
    Calls Tryz.prog 38 #[grP b] w fun e w' => e = .returned (.int .i64 n) ∧ w = w' := by
  obtain ⟨c0, c1, c2, cf⟩ := h.three
  clear h c1 c2 cf
  go_enter Tryz.func38, Tryz.ntmps38
  go_wp2
  go_ret
  exact ⟨rfl, rfl⟩

set_option maxHeartbeats 1000000 in
theorem grLen_nil : Calls Tryz.prog 38 #[.pointer none] w fun e w' => e = .returned (.int .i64 0) ∧ w = w' := by
  go_enter Tryz.func38, Tryz.ntmps38
  go_wp2
  go_ret
  exact ⟨rfl, rfl⟩








set_option maxHeartbeats 1000000 in
theorem grPush_nil : Calls Tryz.prog 77 #[.pointer none, .int .i64 x] w fun e w' => e = .returned (.bool false) ∧ w = w' := by
  go_enter Tryz.func77, Tryz.ntmps77
  go_wp2
  go_ret
  exact ⟨rfl, rfl⟩

set_option maxHeartbeats 2000000 in
theorem grPush_no (h : IsGr w b M l A n c xs) (hn : M ≤ n) :
    Calls Tryz.prog 77 #[grP b, .int .i64 x] w fun e w' => e = .returned (.bool false) ∧ IsGr w' b M true A n c xs ∧ GrT b A A w w' := by
  obtain ⟨c0, c1, c2, cf⟩ := h.three
  have d : decide ((n : Int) ≥ M) = true := decide_eq_true hn
  have d2 : decide (M ≤ (n : Int)) = true := decide_eq_true hn
  have HH := Lib.hid h
  clear h
  go_enter Tryz.func77, Tryz.ntmps77
  go_wp2_with fail
  go_big_quiet (fail)
  generalize hW : w.drewN _ = W1
  have bw : Below w.heap.size w W1 := hW ▸ below_drewN _ _
  have H1 := Lib.hid (HH.out.keep bw)
  have BW := Lib.hid bw
  clear hW bw c0 c1 c2 cf HH
  obtain ⟨c0, c1, c2, cf⟩ := H1.out.three
  have H2 := Lib.hid (H1.out.say true)
  clear c0 c1 H1
  go_wp2
  go_ret
  exact ⟨rfl, H2.out, (GrT.of_below BW.out).trans (GrT.set 2 _)⟩

set_option maxHeartbeats 4000000 in
theorem grPush_yes (h : IsGr w b M l A n c xs) (hn : (n : Int) < M) :
    Calls Tryz.prog 77 #[grP b, .int .i64 x] w fun e w' => e = .returned (.bool true) ∧ ∃ A' c', IsGr w' b M l A' (n + 1) c' (xs ++ [x]) ∧ GrT b A A' w w' := by
  obtain ⟨c0, c1, c2, cf⟩ := h.three
  have d : decide ((n : Int) ≥ M) = false := decide_eq_false (by omega)
  have d2 : decide (M ≤ (n : Int)) = false := decide_eq_false (by omega)
  have few : n ≤ 1048576 := by have := h.m1; omega
  have HH := Lib.hid h
  have m1 := h.m1
  clear h
  go_enter Tryz.func77, Tryz.ntmps77
  go_wp2_with fail
  go_big_quiet (fail)
  generalize hW : w.drewN _ = W1
  have bw : Below w.heap.size w W1 := hW ▸ below_drewN _ _
  have H1 := Lib.hid (HH.out.keep bw)
  have BW := Lib.hid bw
  clear hW bw c0 c1 c2 cf HH
  obtain ⟨c0, c1, c2, cf⟩ := H1.out.three
  have hlt := H1.out.lt
  have H2 := Lib.hid (H1.out.keep ((Below.refl _ _).alloc (Nat.le_refl _) (.cells #[.int .i64 x] 3)))
  have B2 := Lib.hid (BW.out.alloc BW.out.size (.cells #[.int .i64 x] 3))
  have e2 := Lib.hid (show (W1.alloc (.cells #[.int .i64 x] 3)).cell? ⟨W1.heap.size, 0, none⟩ = some (.int .i64 x) from (Blk.new W1 #[.int .i64 x] 3).cell 0)
  clear BW H1 c1 c2
  go_wp2_with (first
    | (at_builtin; (refine wpList_append_qu _ rfl _ _ rfl H2.out.row few x ⟨W1.heap.size, 0, none⟩ 1 rfl rfl e2.out ?_))
    | fail)
  intro A' c' w2 q g
  have hb2 : blkOf A ≠ some b := fun e => H2.out.ne e rfl
  have k2 := H2.out.blk.frm g.frm hb2
  have cf2 : w2.frozen? ⟨b, 0, none⟩ = false := k2.frozen 0
  have ex2 : w2.cell? ⟨b, 0, none⟩ = some (.slice A n c) := k2.cell 0
  have H3 := Lib.hid (show IsGr (w2.setCell ⟨b, 0, none⟩ (.slice A' (n + 1) c')) b M l A' (n + 1) c' (xs ++ [x]) from
    ⟨k2.set_ 0 _, q.frm (S := fun k => k = b) (Frm.setCell (S := fun k => k = b) (Frm.refl _ _) (p := ⟨b, 0, none⟩) (fun _ => rfl) _) (fun k hk e => by
      subst e
      rcases q.lies with ⟨rfl, _⟩ | ⟨g, off, cs, rfl, hb, _⟩
      · cases hk
      · cases hk
        exact Blk.ne_ k2 hb (by decide) rfl), H2.out.m0, m1, by omega⟩)
  have T := Lib.hid (show GrT b A A' w (w2.setCell ⟨b, 0, none⟩ (.slice A' (n + 1) c')) from
    ⟨((Frm.of_below B2.out : Frm (fun k => k = b ∨ blkOf A = some k) _ _).trans g.frm (fun i _ e => .inr e)).setCell (fun _ => .inl rfl) _,
     fun k hk => (g.at_ k hk).imp id fun h => Nat.le_trans B2.out.size h⟩)
  clear k2 q g H2 B2 e2 hb2 cf c0
  go_wp2
  go_ret
  exact ⟨rfl, A', c', H3.out, T.out⟩
end
end Go.Proofs.YthmhehehomieiaaGreat

/- A slice compared with nil; slices.Clone of a slice of ints. -/
namespace Go.Proofs.YthmhehehomieiaaGreat
open Go.RowKit

set_option maxRecDepth 100000 in
/-- A slice beside nil. -/
theorem eq_nilSlice (a : Addr) (n c : Nat) (v : World) : Sem.run Tryz.prog (binOp .eql 39 (.slice (some a) n c) (.slice none 0 0)) v = .ok (.bool false) v := rfl
set_option maxRecDepth 100000 in
theorem eq_nilNil (v : World) : Sem.run Tryz.prog (binOp .eql 39 (.slice none 0 0) (.slice none 0 0)) v = .ok (.bool true) v := rfl

section
variable (A : Option Addr) (n c : Nat) (xs : List Int) (w : World)

set_option maxHeartbeats 2000000 in
theorem clone_qu (h : Qu w A n c xs) (few : n ≤ 1048576) :
    Calls Tryz.prog 70 #[.slice A n c] w fun e w' => ∃ A' c', e = .returned (.slice A' n c') ∧ Qu w' A' n c' xs ∧ Below w.heap.size w w' ∧ ∀ k, blkOf A' = some k → w.heap.size ≤ k := by
  have hA := h.lies
  have Q := Lib.hid (h.keep ((Below.refl _ _).alloc (Nat.le_refl _) (.cells #[] 3)))
  have G := Lib.hid (Blk.new w #[] 3)
  have H := Lib.hid h
  rcases hA with ⟨rfl, rfl⟩ | ⟨g, off, cs, rfl, _, _, _⟩
  · obtain rfl : n = 0 := by have := h.le; omega
    have en := eq_nilNil
    clear h Q G
    go_enter Tryz.func70, Tryz.ntmps70
    go_wp2
    go_ret
    exact ⟨_, _, rfl, H.out, Below.refl _ _, fun k hk => by cases hk⟩
  · have en := eq_nilSlice
    clear h H
    go_enter Tryz.func70, Tryz.ntmps70
    go_wp2_with (first
      | (at_builtin; (refine wpList_clone_qu _ rfl _ _ rfl Q.out few w.heap.size G.out rfl rfl ?_))
      | fail)
    intro A' c' w2 q bb hf
    have Q2 := Lib.hid (And.intro q (And.intro (((Below.refl _ w).alloc (Nat.le_refl _) (.cells #[] 3)).trans (bb.mono (by omega))) (show ∀ k, blkOf A' = some k → w.heap.size ≤ k from fun k hk => by
      rcases hf k hk with rfl | h
      · exact Nat.le_refl _
      · omega)))
    clear q bb hf Q G
    go_wp2
    go_ret
    exact ⟨A', c', rfl, Q2.out.1, Q2.out.2.1, Q2.out.2.2⟩
end
end Go.Proofs.YthmhehehomieiaaGreat

/- Contracts of the program's stack: All, Put; of none, too. -/
namespace Go.Proofs.YthmhehehomieiaaGreat
open Go.RowKit

section
variable (b : Nat) (M : Int) (l : Bool) (A : Option Addr) (n c : Nat) (xs : List Int) (x : Int) (w : World)

set_option maxHeartbeats 1000000 in
theorem grAll_any (h : IsGr w b M l A n c xs) :
    Calls Tryz.prog 135 #[grP b] w fun e w' => ∃ A' c', e = .returned (.slice A' n c') ∧ Qu w' A' n c' xs ∧ Below w.heap.size w w' ∧ ∀ k, blkOf A' = some k → w.heap.size ≤ k := by
  obtain ⟨c0, c1, c2, cf⟩ := h.three
  have H := Lib.hid (clone_qu A n c xs w h.row (by have := h.m1; have := h.few; omega))
  clear h c1 c2 cf
  go_enter Tryz.func135, Tryz.ntmps135
  go_wp2_with fail
  refine H.out.mono ?_
  rintro e w1 ⟨A', c', rfl, b1⟩
  have B := Lib.hid b1
  clear b1
  go_wp2
  go_ret
  exact ⟨A', c', rfl, B.out⟩

set_option maxHeartbeats 1000000 in
theorem grAll_nil : Calls Tryz.prog 135 #[.pointer none] w fun e w' => e = .returned (.slice none 0 0) ∧ w = w' := by
  go_enter Tryz.func135, Tryz.ntmps135
  go_wp2
  go_ret
  exact ⟨rfl, rfl⟩

set_option maxHeartbeats 1000000 in
theorem grPut_nil (L : Option Addr) (m d : Nat) : Calls Tryz.prog 136 #[.pointer none, .slice L m d] w fun e w' => e = .returned (.tuple #[]) ∧ w = w' := by
  go_enter Tryz.func136, Tryz.ntmps136
  go_wp2
  first | go_end0 | refine bodyPost_ret (results_none rfl _ _ _) rfl ?_
  exact ⟨rfl, rfl⟩
end

/-- What stands there when the first i of ys have been pushed. -/
def PutR (w : World) (b : Nat) (M : Int) (l : Bool) (A : Option Addr) (ys : List Int) (i : Nat) (w' : World) : Prop :=
  ∃ A' n' c', IsGr w' b M (l || decide (M < (i : Int))) A' n' c' (ys.take (min i M.toNat)) ∧ GrT b A A' w w'

set_option maxHeartbeats 4000000 in
theorem grPut_any (b : Nat) (M : Int) (l : Bool) (A : Option Addr) (n c : Nat) (xs ys : List Int) (L : Option Addr) (m d : Nat) (w : World) (h : IsGr w b M l A n c xs) (rd : Rd .i64 w L m ys) (hm : m ≤ maxLen)
    (far : 0 < m → ∀ ad, L = some ad → ad.block ≠ b ∧ blkOf A ≠ some ad.block) :
    Calls Tryz.prog 136 #[grP b, .slice L m d] w fun e w' => e = .returned (.tuple #[]) ∧ ∃ A' n' c', IsGr w' b M (l || decide (M < (m : Int))) A' n' c' (ys.take M.toNat) ∧ GrT b A A' w w' := by
  obtain ⟨c0, c1, c2, cf⟩ := h.three
  have m0 := h.m0
  have m1 := h.m1
  have hlt := h.lt
  have cm := h.row.max
  have hA := h.row.lies
  unfold maxLen at cm
  have mm : m ≤ 9223372036854775807 := by simp only [maxLen] at hm; omega
  have HS := Lib.hid (show PutR w b M l A ys 0 (w.setCell ⟨b, 0, none⟩ (.slice A 0 c)) from ⟨A, 0, c, by
    have e : decide (M < ((0 : Nat) : Int)) = false := decide_eq_false (by omega)
    rw [e, Bool.or_false]
    simpa using h.set h.row.none_ (by omega), GrT.set 0 _⟩)
  have RD := Lib.hid rd
  have FA := Lib.hid far
  have HL := Lib.hid rd.1
  clear h rd far hm
  rcases hA with ⟨rfl, rfl⟩ | ⟨g, off, cs, rfl, _, _, _⟩
  all_goals
    go_enter Tryz.func136, Tryz.ntmps136
    go_wp2_with fail
    go_loopw [18] (fun s wr => ∃ i : Nat, i ≤ m ∧ s = .int .i64 i ∧ Hid (PutR w b M l _ ys i wr)) (fun s _ => m - (intOf s).toNat)
    case atStart => exact ⟨0, Nat.zero_le _, rfl, HS⟩
    case round =>
      obtain ⟨i, hi, rfl, HP⟩ := hrel
      clear HS c0 c1 c2 cf
      by_cases l1 : i < m
      · obtain ⟨A', n', c', hg, ht⟩ := HP.out
        have hx := List.getElem?_eq_getElem (l := ys) (i := i) (by have := HL.out; omega)
        generalize ys[i]'(by have := HL.out; omega) = x at hx
        obtain ⟨ad, eL, hb, hc⟩ := RD.out.2 i x hx
        subst eL
        have fa := FA.out (by omega) ad rfl
        have hcell : wr.cell? (ad.add i) = some (.int .i64 x) := by
          have hk : (ad.add i).block = ad.block := block_of_add _ _
          rw [← hc]
          unfold World.cell?
          rw [hk, ht.frm.block ad.block hb (fun e => e.elim fa.1 fa.2)]
        have ln : n' = min i M.toNat := by have := hg.row.len; rw [List.length_take, HL.out] at this; omega
        by_cases hf : (n' : Int) < M
        · have HC := Lib.hid (grPush_yes b M _ A' n' c' _ x wr hg hf)
          have HT := Lib.hid ht
          have iM : (i : Int) < M := by omega
          have HE := Lib.hid (show ys.take (min i M.toNat) ++ [x] = ys.take (min (i + 1) M.toNat) from by
            rw [show min i M.toNat = i by omega, show min (i + 1) M.toNat = i + 1 by omega, List.take_add_one, hx]; rfl)
          have HD := Lib.hid (show decide (M < (i : Int)) = decide (M < ((i + 1 : Nat) : Int)) from by rw [decide_eq_false (by omega), decide_eq_false (by omega)])
          clear hg ht hx hc fa hf ln
          go_wp2_with fail
          refine HC.out.mono ?_
          rintro e w2 ⟨rfl, A2, c2, hg2, ht2⟩
          rw [HE.out, HD.out] at hg2
          have HN := Lib.hid (show PutR w b M l _ ys (i + 1) w2 from ⟨A2, _, c2, hg2, HT.out.trans ht2⟩)
          clear hg2 ht2 HT HC HP HE HD hcell
          go_wp2
          go_roundw
          case rel => exact ⟨i + 1, by omega, by go_num, HN⟩
          case measure => simp [intOf]; omega
        · have HC := Lib.hid (grPush_no b M _ A' n' c' _ x wr hg (by omega))
          have HT := Lib.hid ht
          have HE := Lib.hid (show ys.take (min i M.toNat) = ys.take (min (i + 1) M.toNat) from by
            rw [show min i M.toNat = min (i + 1) M.toNat by omega])
          have HD := Lib.hid (show true = (l || decide (M < ((i + 1 : Nat) : Int))) from by rw [decide_eq_true (by omega), Bool.or_true])
          clear hg ht hx hc fa hf ln
          go_wp2_with fail
          refine HC.out.mono ?_
          rintro e w2 ⟨rfl, hg2, ht2⟩
          rw [HE.out, HD.out] at hg2
          have HN := Lib.hid (show PutR w b M l _ ys (i + 1) w2 from ⟨A', _, c', hg2, HT.out.trans ht2⟩)
          clear hg2 ht2 HT HC HP HE HD hcell
          go_wp2
          go_roundw
          case rel => exact ⟨i + 1, by omega, by go_num, HN⟩
          case measure => simp [intOf]; omega
      · obtain rfl : i = m := by omega
        have e : ys.take (min i M.toNat) = ys.take M.toNat := by
          rw [← HL.out, Nat.min_comm, ← List.take_take, List.take_length]
        have HP := Lib.hid (show ∃ A' n' c', IsGr wr b M (l || decide (M < (i : Int))) A' n' c' (ys.take M.toNat) ∧ GrT b _ A' w wr from by rw [← e]; exact HP.out)
        clear e
        go_wp2
        first | go_end0 | refine bodyPost_ret (results_none rfl _ _ _) rfl ?_
        exact ⟨rfl, HP.out⟩
end Go.Proofs.YthmhehehomieiaaGreat

/- The document's Ints: two slices of own memory that hold the same. -/
namespace Go.Proofs.YthmhehehomieiaaGreat
open Go.RowKit

set_option maxHeartbeats 1000000 in
/-- Two slices with the same numbers. -/
theorem ints_qu (A1 A2 : Option Addr) (n c1 c2 : Nat) (xs : List Int) (w : World) (h1 : Qu w A1 n c1 xs) (h2 : Qu w A2 n c2 xs) (few : n ≤ 1048576) :
    Calls Tryz.prog 49 #[.slice A1 n c1, .slice A2 n c2] w fun e w' => e = .returned (.bool true) ∧ Below w.heap.size w w' := by
  have H1 := Lib.hid h1
  have H2 := Lib.hid h2
  have HL := Lib.hid h1.len
  clear h1 h2
  go_enter Tryz.func49, Tryz.ntmps49
  go_wp2_with fail
  go_loopw [5] (fun s wr => ∃ j m : Nat, j ≤ n ∧ s = .int .i64 j ∧ wr = w.drewN m) (fun s _ => n - (intOf s).toNat)
  case atStart => exact ⟨0, 0, Nat.zero_le _, rfl, rfl⟩
  case round =>
    obtain ⟨j, m, hj, rfl, rfl⟩ := hrel
    by_cases hlt : j < n
    · have hy : xs[j]? = some (xs[j]'(by have := HL.out; omega)) := List.getElem?_eq_getElem _
      generalize xs[j]'(by have := HL.out; omega) = y at hy
      obtain ⟨g1, o1, rfl, _, d1, _⟩ := H1.out.at_ (by omega)
      obtain ⟨g2, o2, rfl, _, d2, _⟩ := H2.out.at_ (by omega)
      have x1 := d1 j y hy
      have x2 := d2 j y hy
      have j0 : (0 : Int) ≤ (j : Int) := by omega
      have j1 : (j : Int) < (n : Int) := by omega
      clear d1 d2 hy
      go_wp2_with fail
      go_quiet (fail)
      go_wp2
      go_roundw
      case rel => exact ⟨j + 1, _, by omega, by go_num, rfl⟩
      case measure => simp [intOf]; omega
    · obtain rfl : j = n := by omega
      go_wp2
      go_ret
      exact ⟨rfl, below_drewN _ _⟩
end Go.Proofs.YthmhehehomieiaaGreat

/- A stack made since some world, with blocks beside it that it leaves; awake, GreyNone. -/
namespace Go.Proofs.YthmhehehomieiaaGreat
open Go.RowKit

/-- Block b is a stack made since w0; no block of Z is its own; what there was is as it was. -/
structure Gz (w0 w : World) (Z : Nat → Prop) (b : Nat) (M : Int) (l : Bool) (xs : List Int) : Prop where
  is : ∃ A c, IsGr w b M l A xs.length c xs ∧ ∀ k, (k = b ∨ blkOf A = some k) → w0.heap.size ≤ k ∧ ¬ Z k
  bel : Below w0.heap.size w0 w
  low : ∀ k, Z k → w0.heap.size ≤ k ∧ k < w.heap.size

theorem IsGr.own_lt {w : World} {b : Nat} {M : Int} {l : Bool} {A : Option Addr} {n c : Nat} {xs : List Int} (h : IsGr w b M l A n c xs) {k : Nat} (hk : k = b ∨ blkOf A = some k) : k < w.heap.size := by
  rcases hk with rfl | e
  · exact h.lt
  · exact h.row.lt e

section
variable {w0 w w' : World} {Z Z' : Nat → Prop} {b : Nat} {M : Int} {l : Bool} {xs : List Int} {x : Int}

theorem Gz.keep (h : Gz w0 w Z b M l xs) (f : Below w.heap.size w w') : Gz w0 w' Z b M l xs := by
  obtain ⟨A, c, hp, ho⟩ := h.is
  exact ⟨⟨A, c, hp.keep f, ho⟩, below_trans h.bel f, fun k hk => ⟨(h.low k hk).1, Nat.lt_of_lt_of_le (h.low k hk).2 f.size⟩⟩

/-- What is beside it has been written to; new blocks may be beside it. -/
theorem Gz.write {S : Nat → Prop} (h : Gz w0 w Z b M l xs) (f : Frm S w w') (hs : ∀ k, k < w.heap.size → S k → Z k) (hz : ∀ k, Z' k → Z k ∨ (w.heap.size ≤ k ∧ k < w'.heap.size)) : Gz w0 w' Z' b M l xs := by
  obtain ⟨A, c, hp, ho⟩ := h.is
  refine ⟨⟨A, c, hp.frm f (fun e => (ho b (.inl rfl)).2 (hs b hp.lt e)) (fun k hk e => (ho k (.inr hk)).2 (hs k (hp.row.lt hk) e)), fun k hk => ⟨(ho k hk).1, fun e => ?_⟩⟩, Below.frm h.bel f h.bel.size (fun k hk e => ?_), fun k hk => ?_⟩
  · rcases hz k e with e | e
    · exact (ho k hk).2 e
    · have := hp.own_lt hk; omega
  · have := (h.low k (hs k (Nat.lt_of_lt_of_le hk h.bel.size) e)).1; omega
  · rcases hz k hk with e | e
    · exact ⟨(h.low k e).1, Nat.lt_of_lt_of_le (h.low k e).2 f.size⟩
    · exact ⟨Nat.le_trans h.bel.size e.1, e.2⟩

/-- New blocks are beside it. -/
theorem Gz.grow (h : Gz w0 w Z b M l xs) (f : Below w.heap.size w w') (hz : ∀ k, Z' k → Z k ∨ (w.heap.size ≤ k ∧ k < w'.heap.size)) : Gz w0 w' Z' b M l xs :=
  h.write (S := fun _ => False) (Frm.of_below f) (fun _ _ e => e.elim) hz

theorem Gz.step {A A' : Option Addr} {c n' c' : Nat} {l' : Bool} {ys : List Int} (h : Gz w0 w Z b M l xs) (_ : IsGr w b M l A xs.length c xs) (ho : ∀ k, (k = b ∨ blkOf A = some k) → w0.heap.size ≤ k ∧ ¬ Z k)
    (hp' : IsGr w' b M l' A' n' c' ys) (t : GrT b A A' w w') : Gz w0 w' Z b M l' ys ∧ Kp Z w w' := by
  obtain rfl : ys.length = n' := hp'.row.len
  refine ⟨⟨⟨A', c', hp', fun k hk => ?_⟩, Below.frm h.bel t.frm h.bel.size (fun k hk e => by have := (ho k e).1; omega), fun k hk => ⟨(h.low k hk).1, Nat.lt_of_lt_of_le (h.low k hk).2 t.frm.size⟩⟩, t.frm.mono fun i _ e => (ho i e).2⟩
  rcases hk with rfl | e
  · exact ho k (.inl rfl)
  · rcases t.at_ k e with e1 | e1
    · exact ho k (.inr e1)
    · exact ⟨Nat.le_trans h.bel.size e1, fun z => by have := (h.low k z).2; omega⟩

theorem Gz.few (h : Gz w0 w Z b M l xs) : 0 ≤ M ∧ M ≤ 1048576 ∧ (xs.length : Int) ≤ M := by
  obtain ⟨A, c, hp, _⟩ := h.is
  exact ⟨hp.m0, hp.m1, hp.few⟩

theorem gz_new (m : Int) (bel : Below w0.heap.size w0 w) (low : ∀ k, Z k → w0.heap.size ≤ k ∧ k < w.heap.size) :
    Calls Tryz.prog 66 #[.int .i64 m] w fun e w' => ∃ b, e = .returned (grP b) ∧ Gz w0 w' Z b (cutI m 0 1048576) false [] ∧ Kp Z w w' :=
  (grNew_any m w).mono fun _ _ ⟨he, hb, bb⟩ => ⟨_, he, ⟨⟨none, 0, hb, fun k e => by
    rcases e with rfl | e
    · exact ⟨bel.size, fun z => by have := (low _ z).2; omega⟩
    · cases e⟩, below_trans bel bb, fun k hk => ⟨(low k hk).1, Nat.lt_of_lt_of_le (low k hk).2 bb.size⟩⟩, Kp.of_below bb⟩

theorem gz_push_yes (h : Gz w0 w Z b M l xs) (hn : (xs.length : Int) < M) (x : Int) :
    Calls Tryz.prog 77 #[grP b, .int .i64 x] w fun e w' => e = .returned (.bool true) ∧ Gz w0 w' Z b M l (xs ++ [x]) ∧ Kp Z w w' := by
  obtain ⟨A, c, hp, ho⟩ := h.is
  exact (grPush_yes b M l A _ c xs x w hp hn).mono fun _ _ ⟨he, A', c', h', t⟩ => ⟨he, h.step hp ho h' t⟩

theorem gz_push_no (h : Gz w0 w Z b M l xs) (hn : M ≤ xs.length) (x : Int) :
    Calls Tryz.prog 77 #[grP b, .int .i64 x] w fun e w' => e = .returned (.bool false) ∧ Gz w0 w' Z b M true xs ∧ Kp Z w w' := by
  obtain ⟨A, c, hp, ho⟩ := h.is
  exact (grPush_no b M l A _ c xs x w hp hn).mono fun _ _ ⟨he, h', t⟩ => ⟨he, h.step hp ho h' t⟩





theorem gz_len (h : Gz w0 w Z b M l xs) : Calls Tryz.prog 38 #[grP b] w fun e w' => e = .returned (.int .i64 xs.length) ∧ w = w' := by
  obtain ⟨A, c, hp, ho⟩ := h.is
  exact grLen_any b M l A _ c xs w hp

theorem gz_all (h : Gz w0 w Z b M l xs) :
    Calls Tryz.prog 135 #[grP b] w fun e w' => ∃ A' c', e = .returned (.slice A' xs.length c') ∧ Qu w' A' xs.length c' xs ∧ Below w.heap.size w w' := by
  obtain ⟨A, c, hp, ho⟩ := h.is
  exact (grAll_any b M l A _ c xs w hp).mono fun _ _ ⟨A', c', he, q, bb, _⟩ => ⟨A', c', he, q, bb⟩

/-- A list beside the stack, or as old as w0, is put there. -/
theorem gz_put {ys : List Int} {L : Option Addr} {m d : Nat} (h : Gz w0 w Z b M l xs) (rd : Rd .i64 w L m ys) (hm : m ≤ maxLen) (far : 0 < m → ∀ ad, L = some ad → ad.block < w0.heap.size ∨ Z ad.block) :
    Calls Tryz.prog 136 #[grP b, .slice L m d] w fun e w' => e = .returned (.tuple #[]) ∧ Gz w0 w' Z b M (l || decide (M < (m : Int))) (ys.take M.toNat) ∧ Kp Z w w' := by
  obtain ⟨A, c, hp, ho⟩ := h.is
  refine (grPut_any b M l A _ c xs ys L m d w hp rd hm (fun m0 ad e => ?_)).mono fun _ _ ⟨he, A', n', c', h', t⟩ => ⟨he, h.step hp ho h' t⟩
  rcases far m0 ad e with f | f
  · exact ⟨fun e => by have := (ho _ (.inl e)).1; omega, fun e => by have := (ho _ (.inr e)).1; omega⟩
  · exact ⟨fun e => (ho _ (.inl e)).2 f, fun e => (ho _ (.inr e)).2 f⟩
end

theorem noZ_low {a c : Nat} : ∀ k, noZ k → a ≤ k ∧ k < c := fun _ h => h.elim

/-- A slice that was just made, as a list. -/
theorem rd_new {k : IntKind} (w : World) (xs : List Int) (t : TypeId) : Rd k (w.alloc (.cells (xs.map (Value.int k)).toArray t)) (some ⟨w.heap.size, 0, none⟩) xs.length xs :=
  ⟨rfl, fun i x hx => ⟨_, rfl, by simp, by rw [Addr.add_lit, Nat.zero_add, (Blk.new w _ t).cell]; simp [hx]⟩⟩

theorem qu_new (w : World) (xs : List Int) (h : xs.length ≤ maxLen) : Qu (w.alloc (.cells (xs.map (Value.int .i64)).toArray 3)) (some ⟨w.heap.size, 0, none⟩) xs.length xs.length xs :=
  ⟨rfl, Nat.le_refl _, h, .inr ⟨w.heap.size, 0, _, rfl, Blk.new w _ _, by simp, fun i x hx => by simp [hx]⟩⟩


end Go.Proofs.YthmhehehomieiaaGreat

/- A table in memory; contracts of the program's New, has, Get, Set, All; of none, too. -/
namespace Go.Proofs.YthmhehehomieiaaGreat
open Go.RowKit

/-- Block b is a table, whose handles hold xs, in block g. -/
structure IsHt (w : World) (b g : Nat) (xs : List Int) : Prop where
  blk : Blk w b #[.slice (some ⟨g, 0, none⟩) xs.length xs.length] 112
  row : Blk w g (ints xs).toArray 3
  few : xs.length ≤ 64

/-- So many noughts. -/
def zeros (n : Int) : List Int := List.replicate n.toNat 0
theorem zeros_length (n : Int) : (zeros n).length = n.toNat := List.length_replicate

abbrev htP (b : Nat) : Value := .pointer (some ⟨b, 0, none⟩)

theorem madeI (n : Nat) : madeCells (Value.int .i64 0).cells n = (ints (zeros n)).toArray := by
  apply Array.ext
  · simp [madeCells, ints, zeros]
  · intro i h1 h2
    simp [madeCells, Value.cells, Nat.mod_one, ints, zeros]

/-- Numbers that are made. -/
theorem run_make_int (n : Int) (h0 : 0 ≤ n) (h1 : n ≤ 1073741824) (w : World) :
    (Instr.makeSlice 39 (.int .i64 n) (.int .i64 n)).run Tryz.prog w = .ok (.slice (some ⟨w.heap.size, 0, none⟩) n.toNat n.toNat) (w.alloc (.cells (ints (zeros n)).toArray 3)) := by
  obtain ⟨i, hi, hz, hs, hb⟩ := info_parts info_int
  have h := run_make (P := Tryz.prog) w 39 3 i _ Tryz.underlying39 hi hz .i64 .i64 n n h0 (Int.le_refl _) (by rw [hb]; omega) (by omega)
  rw [hs, Nat.mul_one, madeI, Int.toNat_of_nonneg h0] at h
  exact h

theorem Blk.ints_at {w : World} {b : Nat} {t : TypeId} {xs : List Int} (h : Blk w b (ints xs).toArray t) {i : Nat} {x : Int} (hx : xs[i]? = some x) : w.cell? ⟨b, i, none⟩ = some (.int .i64 x) := by
  rw [h.cell]; simp [ints, hx]

theorem Blk.setInt {w : World} {b : Nat} {t : TypeId} {xs : List Int} (h : Blk w b (ints xs).toArray t) (i : Nat) (x : Int) : Blk (w.setCell ⟨b, i, none⟩ (.int .i64 x)) b (ints (xs.set i x)).toArray t := by
  have := h.set_ i (.int .i64 x)
  have e : (ints xs).toArray.setIfInBounds i (.int .i64 x) = (ints (xs.set i x)).toArray := by
    apply Array.ext'
    simp [ints]
  rw [← e]
  exact this

section
variable {w w' : World} {b g : Nat} {xs : List Int}
theorem IsHt.ne (h : IsHt w b g xs) : b ≠ g := Blk.ne_ h.blk h.row (by decide)
theorem IsHt.keep (h : IsHt w b g xs) (f : Below w.heap.size w w') : IsHt w' b g xs := { h with blk := h.blk.keep f, row := h.row.keep f }
theorem IsHt.frm {S : Nat → Prop} (h : IsHt w b g xs) (f : Frm S w w') (hb : ¬ S b) (hg : ¬ S g) : IsHt w' b g xs := { h with blk := h.blk.frm f hb, row := h.row.frm f hg }
theorem IsHt.qu (h : IsHt w b g xs) : Qu w (some ⟨g, 0, none⟩) xs.length xs.length xs :=
  ⟨rfl, Nat.le_refl _, Nat.le_trans h.few (by decide), .inr ⟨g, 0, _, rfl, h.row, by simp [ints], fun i x hx => by simp [ints, hx]⟩⟩
theorem IsHt.set (h : IsHt w b g xs) (i : Nat) (x : Int) : IsHt (w.setCell ⟨g, i, none⟩ (.int .i64 x)) b g (xs.set i x) :=
  ⟨by rw [List.length_set]; exact h.blk.far (p := ⟨g, i, none⟩) h.ne _, h.row.setInt i x, by rw [List.length_set]; exact h.few⟩
end

theorem tb_made (w : World) (n K : Int) (N : Nat) (e : cutI n 0 64 = K) (eN : K.toNat = N) : IsHt ((w.alloc (.cells (ints (zeros K)).toArray 3)).alloc (.cells #[.slice (some ⟨w.heap.size, 0, none⟩) N N] 112)) (w.heap.size + 1) w.heap.size (zeros (cutI n 0 64)) := by
  subst e
  subst eN
  have hk := cutI_in (n := n) (l := 0) (m := 64) (by decide)
  refine ⟨?_, (Blk.new w _ _).alloc _, by rw [zeros_length]; omega⟩
  rw [zeros_length]
  have := Blk.new (w.alloc (.cells (ints (zeros (cutI n 0 64))).toArray 3)) #[.slice (some ⟨w.heap.size, 0, none⟩) (cutI n 0 64).toNat (cutI n 0 64).toNat] 112
  simpa using this

set_option maxHeartbeats 1000000 in
theorem tbNew_any (n : Int) (w : World) :
    Calls Tryz.prog 67 #[.int .i64 n] w fun e w' => e = .returned (htP (w.heap.size + 1)) ∧ IsHt w' (w.heap.size + 1) w.heap.size (zeros (cutI n 0 64)) ∧ Below w.heap.size w w' := by
  by_cases h0 : n < 0
  · have mk := run_make_int 0 (by decide) (by decide)
    have e0 := Lib.hid (show cutI n 0 64 = 0 by unfold cutI; rw [if_pos h0])
    go_enter Tryz.func67, Tryz.ntmps67
    go_wp2
    go_ret
    exact ⟨rfl, tb_made w n 0 0 e0.out rfl, ((Below.refl _ _).alloc (Nat.le_refl _) _).alloc (by simp) _⟩
  · by_cases h1 : 64 < n
    · have mk := run_make_int 64 (by decide) (by decide)
      have e0 := Lib.hid (show cutI n 0 64 = 64 by unfold cutI; rw [if_neg h0, if_pos h1])
      go_enter Tryz.func67, Tryz.ntmps67
      go_wp2
      go_ret
      exact ⟨rfl, tb_made w n 64 64 e0.out rfl, ((Below.refl _ _).alloc (Nat.le_refl _) _).alloc (by simp) _⟩
    · have mk := run_make_int n (by omega) (by omega)
      have e0 := Lib.hid (show cutI n 0 64 = n by unfold cutI; rw [if_neg h0, if_neg h1])
      go_enter Tryz.func67, Tryz.ntmps67
      go_wp2
      go_ret
      exact ⟨rfl, tb_made w n n _ e0.out rfl, ((Below.refl _ _).alloc (Nat.le_refl _) _).alloc (by simp) _⟩

section
variable (b g : Nat) (xs : List Int) (x : Int) (w : World)

set_option maxHeartbeats 1000000 in
theorem tbHas_yes (h : IsHt w b g xs) (j : Nat) (hj : j < xs.length) :
    Calls Tryz.prog 103 #[htP b, .int .i64 j] w fun e w' => e = .returned (.bool true) ∧ w = w' := by
  have c0 := h.blk.cell 0
  simp only [List.getElem?_toArray, List.getElem?_cons_zero] at c0
  clear h
  go_enter Tryz.func103, Tryz.ntmps103
  go_wp2
  go_ret
  exact ⟨rfl, rfl⟩

set_option maxHeartbeats 1000000 in
theorem tbHas_no (h : IsHt w b g xs) (hn : x < 0 ∨ (xs.length : Int) ≤ x) :
    Calls Tryz.prog 103 #[htP b, .int .i64 x] w fun e w' => e = .returned (.bool false) ∧ w = w' := by
  have c0 := h.blk.cell 0
  simp only [List.getElem?_toArray, List.getElem?_cons_zero] at c0
  clear h
  by_cases h0 : x < 0
  · clear hn
    go_enter Tryz.func103, Tryz.ntmps103
    go_wp2
    go_ret
    exact ⟨rfl, rfl⟩
  · have h1 : (xs.length : Int) ≤ x := by omega
    have d : decide (x < (xs.length : Int)) = false := decide_eq_false (by omega)
    clear hn
    go_enter Tryz.func103, Tryz.ntmps103
    go_wp2
    go_ret
    exact ⟨rfl, rfl⟩

set_option maxHeartbeats 1000000 in
theorem tbHas_nil : Calls Tryz.prog 103 #[.pointer none, .int .i64 x] w fun e w' => e = .returned (.bool false) ∧ w = w' := by
  go_enter Tryz.func103, Tryz.ntmps103
  go_wp2
  go_ret
  exact ⟨rfl, rfl⟩

set_option maxHeartbeats 1000000 in
theorem tbGet_yes (h : IsHt w b g xs) (j : Nat) (hx : xs[j]? = some x) :
    Calls Tryz.prog 53 #[htP b, .int .i64 j] w fun e w' => e = .returned (.tuple #[.int .i64 x, .int .i64 0]) ∧ w = w' := by
  have hj : j < xs.length := (List.getElem?_eq_some_iff.1 hx).1
  have c0 := h.blk.cell 0
  simp only [List.getElem?_toArray, List.getElem?_cons_zero] at c0
  have c1 := h.row.ints_at hx
  have H := Lib.hid (tbHas_yes b g xs w h j hj)
  have j0 : (0 : Int) ≤ (j : Int) := by omega
  have j1 : (j : Int) < (xs.length : Int) := by omega
  clear h hx
  go_enter Tryz.func53, Tryz.ntmps53
  go_wp2_with fail
  refine H.out.mono ?_
  rintro e w1 ⟨rfl, rfl⟩
  go_wp2
  go_ret2
  exact ⟨rfl, rfl⟩

set_option maxHeartbeats 1000000 in
theorem tbGet_no (h : IsHt w b g xs) (hn : x < 0 ∨ (xs.length : Int) ≤ x) :
    Calls Tryz.prog 53 #[htP b, .int .i64 x] w fun e w' => e = .returned (.tuple #[.int .i64 0, .int .i64 3]) ∧ w = w' := by
  have H := Lib.hid (tbHas_no b g xs x w h hn)
  clear h hn
  go_enter Tryz.func53, Tryz.ntmps53
  go_wp2_with fail
  refine H.out.mono ?_
  rintro e w1 ⟨rfl, rfl⟩
  go_wp2
  go_ret2
  exact ⟨rfl, rfl⟩

set_option maxHeartbeats 1000000 in
theorem tbGet_nil : Calls Tryz.prog 53 #[.pointer none, .int .i64 x] w fun e w' => e = .returned (.tuple #[.int .i64 0, .int .i64 3]) ∧ w = w' := by
  go_enter Tryz.func53, Tryz.ntmps53
  go_wp2_with fail
  refine (tbHas_nil x w).mono ?_
  rintro e w1 ⟨rfl, rfl⟩
  go_wp2
  go_ret2
  exact ⟨rfl, rfl⟩

set_option maxHeartbeats 1000000 in
theorem tbSet_yes (h : IsHt w b g xs) (j : Nat) (hj : j < xs.length) :
    Calls Tryz.prog 88 #[htP b, .int .i64 j, .int .i64 x] w fun e w' => e = .returned (.int .i64 0) ∧ IsHt w' b g (xs.set j x) ∧ Frm (fun k => k = g) w w' := by
  have c0 := h.blk.cell 0
  simp only [List.getElem?_toArray, List.getElem?_cons_zero] at c0
  have c1 := h.row.ints_at (List.getElem?_eq_getElem hj)
  have cf := h.row.frozen j
  generalize xs[j] = y at c1
  have H := Lib.hid (tbHas_yes b g xs w h j hj)
  have HS := Lib.hid (h.set j x)
  have j0 : (0 : Int) ≤ (j : Int) := by omega
  have j1 : (j : Int) < (xs.length : Int) := by omega
  clear h
  go_enter Tryz.func88, Tryz.ntmps88
  go_wp2_with fail
  refine H.out.mono ?_
  rintro e w1 ⟨rfl, rfl⟩
  go_wp2
  go_ret
  exact ⟨rfl, HS.out, Frm.setCell (S := fun k => k = g) (Frm.refl _ _) (p := ⟨g, j, none⟩) (fun _ => rfl) _⟩

set_option maxHeartbeats 1000000 in
theorem tbSet_no (y : Int) (h : IsHt w b g xs) (hn : x < 0 ∨ (xs.length : Int) ≤ x) :
    Calls Tryz.prog 88 #[htP b, .int .i64 x, .int .i64 y] w fun e w' => e = .returned (.int .i64 3) ∧ w = w' := by
  have H := Lib.hid (tbHas_no b g xs x w h hn)
  clear h hn
  go_enter Tryz.func88, Tryz.ntmps88
  go_wp2_with fail
  refine H.out.mono ?_
  rintro e w1 ⟨rfl, rfl⟩
  go_wp2
  go_ret
  exact ⟨rfl, rfl⟩

set_option maxHeartbeats 1000000 in
theorem tbSet_nil (y : Int) : Calls Tryz.prog 88 #[.pointer none, .int .i64 x, .int .i64 y] w fun e w' => e = .returned (.int .i64 3) ∧ w = w' := by
  go_enter Tryz.func88, Tryz.ntmps88
  go_wp2_with fail
  refine (tbHas_nil x w).mono ?_
  rintro e w1 ⟨rfl, rfl⟩
  go_wp2
  go_ret
  exact ⟨rfl, rfl⟩

set_option maxHeartbeats 1000000 in
theorem tbAll_any (h : IsHt w b g xs) :
    Calls Tryz.prog 21 #[htP b] w fun e w' => ∃ A' c', e = .returned (.slice A' xs.length c') ∧ Qu w' A' xs.length c' xs ∧ Below w.heap.size w w' ∧ ∀ k, blkOf A' = some k → w.heap.size ≤ k := by
  have c0 := h.blk.cell 0
  simp only [List.getElem?_toArray, List.getElem?_cons_zero] at c0
  have H := Lib.hid (clone_qu _ _ _ xs w h.qu (Nat.le_trans h.few (by decide)))
  clear h
  go_enter Tryz.func21, Tryz.ntmps21
  go_wp2_with fail
  refine H.out.mono ?_
  rintro e w1 ⟨A', c', rfl, b1⟩
  have B := Lib.hid b1
  clear b1
  go_wp2
  go_ret
  exact ⟨A', c', rfl, B.out⟩

set_option maxHeartbeats 1000000 in
theorem tbAll_nil : Calls Tryz.prog 21 #[.pointer none] w fun e w' => e = .returned (.slice none 0 0) ∧ w = w' := by
  go_enter Tryz.func21, Tryz.ntmps21
  go_wp2
  go_ret
  exact ⟨rfl, rfl⟩
end
end Go.Proofs.YthmhehehomieiaaGreat

/- A table made since some world, with blocks beside it that it leaves. -/
namespace Go.Proofs.YthmhehehomieiaaGreat
open Go.RowKit

/-- Block b is a table made since w0; no block of Z is its own; what there was is as it was. -/
structure Hz (w0 w : World) (Z : Nat → Prop) (b : Nat) (xs : List Int) : Prop where
  is : ∃ g, IsHt w b g xs ∧ ∀ k, (k = b ∨ k = g) → w0.heap.size ≤ k ∧ ¬ Z k
  bel : Below w0.heap.size w0 w
  low : ∀ k, Z k → w0.heap.size ≤ k ∧ k < w.heap.size

section
variable {w0 w w' : World} {Z Z' : Nat → Prop} {b : Nat} {xs : List Int} {x : Int}

theorem Hz.few (h : Hz w0 w Z b xs) : xs.length ≤ 64 := by
  obtain ⟨g, hp, _⟩ := h.is
  exact hp.few

theorem Hz.keep (h : Hz w0 w Z b xs) (f : Below w.heap.size w w') : Hz w0 w' Z b xs := by
  obtain ⟨g, hp, ho⟩ := h.is
  exact ⟨⟨g, hp.keep f, ho⟩, below_trans h.bel f, fun k hk => ⟨(h.low k hk).1, Nat.lt_of_lt_of_le (h.low k hk).2 f.size⟩⟩

/-- What is beside it has been written to; new blocks may be beside it. -/
theorem Hz.write {S : Nat → Prop} (h : Hz w0 w Z b xs) (f : Frm S w w') (hs : ∀ k, k < w.heap.size → S k → Z k) (hz : ∀ k, Z' k → Z k ∨ (w.heap.size ≤ k ∧ k < w'.heap.size)) : Hz w0 w' Z' b xs := by
  obtain ⟨g, hp, ho⟩ := h.is
  refine ⟨⟨g, hp.frm f (fun e => (ho b (.inl rfl)).2 (hs b hp.blk.lt e)) (fun e => (ho g (.inr rfl)).2 (hs g hp.row.lt e)), fun k hk => ⟨(ho k hk).1, fun e => ?_⟩⟩, Below.frm h.bel f h.bel.size (fun k hk e => ?_), fun k hk => ?_⟩
  · rcases hz k e with e | e
    · exact (ho k hk).2 e
    · have := hp.blk.lt; have := hp.row.lt; omega
  · have := (h.low k (hs k (Nat.lt_of_lt_of_le hk h.bel.size) e)).1; omega
  · rcases hz k hk with e | e
    · exact ⟨(h.low k e).1, Nat.lt_of_lt_of_le (h.low k e).2 f.size⟩
    · exact ⟨Nat.le_trans h.bel.size e.1, e.2⟩

/-- New blocks are beside it. -/
theorem Hz.grow (h : Hz w0 w Z b xs) (f : Below w.heap.size w w') (hz : ∀ k, Z' k → Z k ∨ (w.heap.size ≤ k ∧ k < w'.heap.size)) : Hz w0 w' Z' b xs :=
  h.write (S := fun _ => False) (Frm.of_below f) (fun _ _ e => e.elim) hz

theorem hz_new (n : Int) (bel : Below w0.heap.size w0 w) (low : ∀ k, Z k → w0.heap.size ≤ k ∧ k < w.heap.size) :
    Calls Tryz.prog 67 #[.int .i64 n] w fun e w' => ∃ b, e = .returned (htP b) ∧ Hz w0 w' Z b (zeros (cutI n 0 64)) ∧ Kp Z w w' :=
  (tbNew_any n w).mono fun _ _ ⟨he, hb, bb⟩ => ⟨_, he, ⟨⟨_, hb, fun k e => by
    have := bel.size
    refine ⟨by omega, fun z => by have := (low _ z).2; omega⟩⟩, below_trans bel bb, fun k hk => ⟨(low k hk).1, Nat.lt_of_lt_of_le (low k hk).2 bb.size⟩⟩, Kp.of_below bb⟩

theorem hz_get_yes (h : Hz w0 w Z b xs) (j : Nat) (hx : xs[j]? = some x) :
    Calls Tryz.prog 53 #[htP b, .int .i64 j] w fun e w' => e = .returned (.tuple #[.int .i64 x, .int .i64 0]) ∧ w = w' := by
  obtain ⟨g, hp, ho⟩ := h.is
  exact tbGet_yes b g xs x w hp j hx

theorem hz_get_no (h : Hz w0 w Z b xs) (hn : x < 0 ∨ (xs.length : Int) ≤ x) :
    Calls Tryz.prog 53 #[htP b, .int .i64 x] w fun e w' => e = .returned (.tuple #[.int .i64 0, .int .i64 3]) ∧ w = w' := by
  obtain ⟨g, hp, ho⟩ := h.is
  exact tbGet_no b g xs x w hp hn

theorem hz_set_yes (h : Hz w0 w Z b xs) (j : Nat) (hj : j < xs.length) (x : Int) :
    Calls Tryz.prog 88 #[htP b, .int .i64 j, .int .i64 x] w fun e w' => e = .returned (.int .i64 0) ∧ Hz w0 w' Z b (xs.set j x) ∧ Kp Z w w' := by
  obtain ⟨g, hp, ho⟩ := h.is
  exact (tbSet_yes b g xs x w hp j hj).mono fun _ _ ⟨he, h', f⟩ => ⟨he, ⟨⟨g, h', ho⟩, Below.frm h.bel f h.bel.size (fun k hk e => by have := (ho k (.inr e)).1; omega), fun k hk => ⟨(h.low k hk).1, Nat.lt_of_lt_of_le (h.low k hk).2 f.size⟩⟩,
    f.mono fun i _ e => (ho i (.inr e)).2⟩

theorem hz_set_no (h : Hz w0 w Z b xs) (hn : x < 0 ∨ (xs.length : Int) ≤ x) (y : Int) :
    Calls Tryz.prog 88 #[htP b, .int .i64 x, .int .i64 y] w fun e w' => e = .returned (.int .i64 3) ∧ w = w' := by
  obtain ⟨g, hp, ho⟩ := h.is
  exact tbSet_no b g xs x w y hp hn

theorem hz_all (h : Hz w0 w Z b xs) {n : Nat} (hn : xs.length = n) :
    Calls Tryz.prog 21 #[htP b] w fun e w' => ∃ A' c', e = .returned (.slice A' n c') ∧ Qu w' A' n c' xs ∧ Below w.heap.size w w' ∧ ∀ k, blkOf A' = some k → w.heap.size ≤ k := by
  subst hn
  obtain ⟨g, hp, ho⟩ := h.is
  exact tbAll_any b g xs w hp
end
end Go.Proofs.YthmhehehomieiaaGreat

/- Contracts of the small functions of package conf and of the statements of layer 3: within, in, divides, all. -/
namespace Go.Proofs.YthmhehehomieiaaGreat
open Go.RowKit

def wiB (n f t : Int) : Bool := decide (f ≤ n ∧ n ≤ t)

set_option maxHeartbeats 400000 in
theorem confWithin_any (n f t : Int) (w : World) :
    Calls Tryz.prog 58 #[.int .i64 n, .int .i64 f, .int .i64 t] w fun e w' => e = .returned (.bool (wiB n f t)) ∧ w = w' := by
  by_cases h0 : f ≤ n
  · by_cases h1 : n ≤ t
    all_goals
      go_enter Tryz.func58, Tryz.ntmps58
      go_wp2
      go_ret
      exact ⟨by simp [wiB, h0, h1], rfl⟩
  · go_enter Tryz.func58, Tryz.ntmps58
    go_wp2
    go_ret
    exact ⟨by rw [show wiB n f t = false from by unfold wiB; exact decide_eq_false (by omega)]; rfl, rfl⟩


def dvB (p n : Int) : Bool := decide (1 ≤ p) && (n.tmod p == 0)

set_option maxHeartbeats 400000 in
theorem divides_any (p n : Int) (w : World) :
    Calls Tryz.prog 59 #[.int .i64 p, .int .i64 n] w fun e w' => e = .returned (.bool (dvB p n)) ∧ w = w' := by
  by_cases h0 : 1 ≤ p
  · go_enter Tryz.func59, Tryz.ntmps59
    go_wp2
    go_ret
    exact ⟨by simp [dvB, h0], rfl⟩
  · go_enter Tryz.func59, Tryz.ntmps59
    go_wp2
    go_ret
    exact ⟨by rw [show dvB p n = false from by unfold dvB; rw [decide_eq_false (by omega)]; rfl]; rfl, rfl⟩

set_option maxHeartbeats 1000000 in
theorem all_any (bs : List Bool) (b : Nat) (t : TypeId) (w : World) (hn : bs.length ≤ 1000) (h : Blk w b (bs.map Value.bool).toArray t) :
    Calls Tryz.prog 57 #[.slice (some ⟨b, 0, none⟩) bs.length bs.length] w fun e w' => e = .returned (.bool (bs.all id)) ∧ w = w' := by
  have hc : ∀ i : Nat, w.cell? ⟨b, i, none⟩ = (bs[i]?).map Value.bool := fun i => by rw [h.cell]; simp
  have hfz := h.frozen
  have HC := Lib.hid hc
  clear hc h
  go_enter Tryz.func57, Tryz.ntmps57
  go_wp2_with fail
  go_loopw [7] (fun i wr => ∃ j : Nat, j ≤ bs.length ∧ i = .int .i64 j ∧ (∀ k, k < j → bs[k]? = some true) ∧ w = wr) (fun i _ => bs.length - (intOf i).toNat)
  case atStart => exact ⟨0, Nat.zero_le _, rfl, fun k hk => by omega, rfl⟩
  case round =>
    obtain ⟨j, hj, rfl, ht, rfl⟩ := hrel
    have HT := Lib.hid ht
    clear ht
    by_cases hlt : j < bs.length
    · obtain ⟨x, hx⟩ : ∃ x, bs[j]? = some x := ⟨_, List.getElem?_eq_getElem hlt⟩
      have hcj := HC.out j
      rw [hx, Option.map_some] at hcj
      have HX := Lib.hid hx
      clear hx
      cases x
      · go_wp2
        go_ret
        refine ⟨?_, rfl⟩
        have : bs.all id = false := by
          rw [List.all_eq_false]
          exact ⟨false, List.mem_of_getElem? HX.out, by simp⟩
        rw [this]; rfl
      · go_wp2
        go_roundw
        case rel => exact ⟨j + 1, by omega, by go_num, fun k hk => by
          by_cases e : k = j
          · subst e; exact HX.out
          · exact HT.out k (by omega), by trivial⟩
        case measure => simp [intOf]; omega
    · obtain rfl : j = bs.length := by omega
      go_wp2
      go_ret
      refine ⟨?_, rfl⟩
      have : bs.all id = true := by
        rw [List.all_eq_true]
        intro x hx
        obtain ⟨k, hk, rfl⟩ := List.getElem_of_mem hx
        have := HT.out k hk
        rw [List.getElem?_eq_getElem hk] at this
        simpa using this
      rw [this]; rfl
end Go.Proofs.YthmhehehomieiaaGreat

/- Contract of Check: ErrArg just where one of the thirteen conditions fails. -/
namespace Go.Proofs.YthmhehehomieiaaGreat
open Go.RowKit

/-- A configuration as a value. -/
abbrev cfV (ha nu ps pz cd bf st tn lg mi ma na ja : Int) : Value :=
  .agg #[.int .i64 ha, .int .i64 nu, .int .i64 ps, .int .i64 pz, .int .i64 cd, .int .i64 bf, .int .i64 st, .int .i64 tn, .int .i64 lg, .int .i64 mi, .int .i64 ma, .int .i64 na, .int .i64 ja]

theorem Blk.thirteen {w : World} {b : Nat} {t : TypeId} {v0 v1 v2 v3 v4 v5 v6 v7 v8 v9 v10 v11 v12 : Value} (h : Blk w b #[v0, v1, v2, v3, v4, v5, v6, v7, v8, v9, v10, v11, v12] t) :
    w.cell? ⟨b, 0, none⟩ = some v0 ∧ w.cell? ⟨b, 1, none⟩ = some v1 ∧ w.cell? ⟨b, 2, none⟩ = some v2 ∧ w.cell? ⟨b, 3, none⟩ = some v3 ∧ w.cell? ⟨b, 4, none⟩ = some v4 ∧ w.cell? ⟨b, 5, none⟩ = some v5 ∧ w.cell? ⟨b, 6, none⟩ = some v6 ∧
    w.cell? ⟨b, 7, none⟩ = some v7 ∧ w.cell? ⟨b, 8, none⟩ = some v8 ∧ w.cell? ⟨b, 9, none⟩ = some v9 ∧ w.cell? ⟨b, 10, none⟩ = some v10 ∧ w.cell? ⟨b, 11, none⟩ = some v11 ∧ w.cell? ⟨b, 12, none⟩ = some v12 :=
  ⟨h.cell 0, h.cell 1, h.cell 2, h.cell 3, h.cell 4, h.cell 5, h.cell 6, h.cell 7, h.cell 8, h.cell 9, h.cell 10, h.cell 11, h.cell 12⟩

def cnds (ha nu ps pz cd bf st tn lg mi ma na ja : Int) : List Bool :=
  [wiB ha 1 64, wiB nu 8 4096, wiB ps 0 64, wiB pz 16 256, dvB cd pz, wiB bf 0 256, wiB st 1 256, wiB tn 1 7, wiB lg 0 (if IntKind.i64.wrap (nu - 2) < 64 then IntKind.i64.wrap (nu - 2) else 64), wiB mi 0 64, wiB ma 0 64, wiB na 0 nu, wiB ja 0 ps]

def mayB (ha nu ps pz cd bf st tn lg mi ma na ja : Int) : Bool := (cnds ha nu ps pz cd bf st tn lg mi ma na ja).all id

def errI (b : Bool) : Int := if b then 0 else 1

theorem confWithin_still (n f t : Int) (w : World) :
    Calls Tryz.prog 58 #[.int .i64 n, .int .i64 f, .int .i64 t] w fun e w' => e = .returned (.bool (wiB n f t)) ∧ w' = w := (confWithin_any n f t w).mono fun _ _ h => ⟨h.1, h.2.symm⟩
theorem divides_still (p n : Int) (w : World) :
    Calls Tryz.prog 59 #[.int .i64 p, .int .i64 n] w fun e w' => e = .returned (.bool (dvB p n)) ∧ w' = w := (divides_any p n w).mono fun _ _ h => ⟨h.1, h.2.symm⟩

theorem all_13 {b0 b1 b2 b3 b4 b5 b6 b7 b8 b9 b10 b11 b12 r : Bool} (hr : [b0, b1, b2, b3, b4, b5, b6, b7, b8, b9, b10, b11, b12].all id = r) (b : Nat) (t : TypeId) (w : World) (h : Blk w b #[.bool b0, .bool b1, .bool b2, .bool b3, .bool b4, .bool b5, .bool b6, .bool b7, .bool b8, .bool b9, .bool b10, .bool b11, .bool b12] t) :
    Calls Tryz.prog 57 #[.slice (some ⟨b, 0, none⟩) 13 13] w fun e w' => e = .returned (.bool r) ∧ w = w' := by
  subst hr
  exact all_any [b0, b1, b2, b3, b4, b5, b6, b7, b8, b9, b10, b11, b12] b t w (by simp) h

set_option maxHeartbeats 4000000 in
set_option maxRecDepth 100000 in
theorem check_any (ha nu ps pz cd bf st tn lg mi ma na ja : Int) (w : World) :
    Calls Tryz.prog 17 #[cfV ha nu ps pz cd bf st tn lg mi ma na ja] w fun e w' => e = .returned (.int .i64 (errI (mayB ha nu ps pz cd bf st tn lg mi ma na ja))) ∧ Below w.heap.size w w' := by
  obtain ⟨m, hm⟩ : ∃ m, (if IntKind.i64.wrap (nu - 2) < 64 then IntKind.i64.wrap (nu - 2) else 64) = m := ⟨_, rfl⟩
  obtain ⟨r, hr⟩ : ∃ r, mayB ha nu ps pz cd bf st tn lg mi ma na ja = r := ⟨_, rfl⟩
  rw [hr]
  unfold mayB cnds at hr
  rw [hm] at hr
  have HR := Lib.hid hr
  clear hr
  have hk := Blk.new w #[.int .i64 ha, .int .i64 nu, .int .i64 ps, .int .i64 pz, .int .i64 cd, .int .i64 bf, .int .i64 st, .int .i64 tn, .int .i64 lg, .int .i64 mi, .int .i64 ma, .int .i64 na, .int .i64 ja] 23
  have hb : Below w.heap.size w (w.alloc (.cells #[.int .i64 ha, .int .i64 nu, .int .i64 ps, .int .i64 pz, .int .i64 cd, .int .i64 bf, .int .i64 st, .int .i64 tn, .int .i64 lg, .int .i64 mi, .int .i64 ma, .int .i64 na, .int .i64 ja] 23)) := (Below.refl _ _).alloc (Nat.le_refl _) _
  have HK := Lib.hid hk
  have HB := Lib.hid hb
  clear hk hb
  go_enter Tryz.func17, Tryz.ntmps17
  go_wp2_with fail
  generalize w.alloc (.cells #[.int .i64 ha, .int .i64 nu, .int .i64 ps, .int .i64 pz, .int .i64 cd, .int .i64 bf, .int .i64 st, .int .i64 tn, .int .i64 lg, .int .i64 mi, .int .i64 ma, .int .i64 na, .int .i64 ja] 23) = W at HK HB ⊢
  obtain ⟨c0, c1, c2, c3, c4, c5, c6, c7, c8, c9, c10, c11, c12⟩ := HK.out.thirteen
  go_still_tail 49, (by kernel_rfl)
  repeat (first | still_step | still_call (confWithin_still _ _ _ _) | still_call (divides_still _ _ _))
  refine wpStill_nil ?_
  change wpList _ _ _ _ _ W.drew
  clear c0 c1 c2 c3 c4 c5 c6 c7 c8 c9 c10 c11 c12
  go_wp2_with fail
  refine (all_13 HR.out _ _ _ (Blk.new _ _ _).drew).mono ?_
  rintro e w' ⟨rfl, rfl⟩
  cases r
  · go_wp2
    go_ret
    exact ⟨rfl, (HB.out.alloc HB.out.size _).drew⟩
  · go_wp2
    go_ret
    exact ⟨rfl, (HB.out.alloc HB.out.size _).drew⟩
end Go.Proofs.YthmhehehomieiaaGreat

/- What it is that a configuration may be made; contracts of Half, Mature, Words and Most. -/
namespace Go.Proofs.YthmhehehomieiaaGreat
open Go.RowKit

theorem wiB_iff (n f t : Int) : wiB n f t = true ↔ f ≤ n ∧ n ≤ t := by simp [wiB]
theorem dvB_iff (p n : Int) : dvB p n = true ↔ 1 ≤ p ∧ n.tmod p = 0 := by simp [dvB]

theorem wrap_in (x : Int) (h0 : -9223372036854775808 ≤ x) (h1 : x ≤ 9223372036854775807) : IntKind.i64.wrap x = x := by
  rw [IntKind.wrap_i64]
  omega

theorem retI {k : IntKind} {a b : Int} (h : a = b) : Ending.returned (.int k a) = .returned (.int k b) := by rw [h]

/-- What the document asks of a configuration. -/
structure May (ha nu ps pz cd bf st tn lg mi ma na ja : Int) : Prop where
  ha0 : 1 ≤ ha
  ha1 : ha ≤ 64
  nu0 : 8 ≤ nu
  nu1 : nu ≤ 4096
  ps0 : 0 ≤ ps
  ps1 : ps ≤ 64
  pz0 : 16 ≤ pz
  pz1 : pz ≤ 256
  cd0 : 1 ≤ cd
  cd1 : pz.tmod cd = 0
  bf0 : 0 ≤ bf
  bf1 : bf ≤ 256
  st0 : 1 ≤ st
  st1 : st ≤ 256
  tn0 : 1 ≤ tn
  tn1 : tn ≤ 7
  lg0 : 0 ≤ lg
  lg1 : lg ≤ 64
  lg2 : lg ≤ nu - 2
  mi0 : 0 ≤ mi
  mi1 : mi ≤ 64
  ma0 : 0 ≤ ma
  ma1 : ma ≤ 64
  na0 : 0 ≤ na
  na1 : na ≤ nu
  ja0 : 0 ≤ ja
  ja1 : ja ≤ ps

theorem mayB_iff (ha nu ps pz cd bf st tn lg mi ma na ja : Int) : mayB ha nu ps pz cd bf st tn lg mi ma na ja = true ↔ May ha nu ps pz cd bf st tn lg mi ma na ja := by
  unfold mayB cnds
  simp only [List.all_cons, List.all_nil, id_eq, Bool.and_true, Bool.and_eq_true, wiB_iff, dvB_iff]
  constructor
  · rintro ⟨h1, h2, h3, h4, h5, h6, h7, h8, h9, h10, h11, h12, h13⟩
    rw [wrap_in (nu - 2) (by omega) (by omega)] at h9
    obtain ⟨g0, g1⟩ := h9
    have g2 : lg ≤ 64 ∧ lg ≤ nu - 2 := by split at g1 <;> omega
    exact ⟨h1.1, h1.2, h2.1, h2.2, h3.1, h3.2, h4.1, h4.2, h5.1, h5.2, h6.1, h6.2, h7.1, h7.2, h8.1, h8.2, g0, g2.1, g2.2, h10.1, h10.2, h11.1, h11.2, h12.1, h12.2, h13.1, h13.2⟩
  · intro h
    rw [wrap_in (nu - 2) (by have := h.nu0; omega) (by have := h.nu1; omega)]
    refine ⟨⟨h.ha0, h.ha1⟩, ⟨h.nu0, h.nu1⟩, ⟨h.ps0, h.ps1⟩, ⟨h.pz0, h.pz1⟩, ⟨h.cd0, h.cd1⟩, ⟨h.bf0, h.bf1⟩, ⟨h.st0, h.st1⟩, ⟨h.tn0, h.tn1⟩, ⟨h.lg0, ?_⟩, ⟨h.mi0, h.mi1⟩, ⟨h.ma0, h.ma1⟩, ⟨h.na0, h.na1⟩, ⟨h.ja0, h.ja1⟩⟩
    have := h.lg1
    have := h.lg2
    split <;> omega

def halfI (nu n : Int) : Int := if n % 2 = 1 then 1 + nu else 1

theorem and_one (n : Int) : bits .and .i64 n 1 = n % 2 := by
  show IntKind.i64.wrap ((BitVec.ofInt 64 n &&& BitVec.ofInt 64 1).toNat : Int) = _
  rw [BitVec.toNat_and, BitVec.toNat_ofInt, show (BitVec.ofInt 64 1).toNat = 1 from rfl, Nat.and_one_is_mod, IntKind.wrap_i64]
  omega

set_option maxHeartbeats 1000000 in
theorem half_any (ha nu ps pz cd bf st tn lg mi ma na ja n : Int) (w : World) (nu0 : 8 ≤ nu) (nu1 : nu ≤ 4096) :
    Calls Tryz.prog 63 #[cfV ha nu ps pz cd bf st tn lg mi ma na ja, .int .i64 n] w fun e w' => e = .returned (.int .i64 (halfI nu n)) ∧ Below w.heap.size w w' := by
  have ha := and_one n
  unfold halfI
  by_cases h : n % 2 = 1
  · rw [if_pos h]
    rw [h] at ha
    clear h
    go_enter Tryz.func63, Tryz.ntmps63
    go_wp2
    go_ret
    exact ⟨rfl, (Below.refl _ _).alloc (Nat.le_refl _) _⟩
  · rw [if_neg h]
    obtain h : n % 2 = 0 := by omega
    rw [h] at ha
    clear h
    go_enter Tryz.func63, Tryz.ntmps63
    go_wp2
    go_ret
    exact ⟨rfl, (Below.refl _ _).alloc (Nat.le_refl _) _⟩

set_option maxHeartbeats 1000000 in
theorem mature_any (ha nu ps pz cd bf st tn lg mi ma na ja : Int) (w : World) (nu0 : 8 ≤ nu) (nu1 : nu ≤ 4096) :
    Calls Tryz.prog 60 #[cfV ha nu ps pz cd bf st tn lg mi ma na ja] w fun e w' => e = .returned (.int .i64 (1 + 2 * nu)) ∧ Below w.heap.size w w' := by
  go_enter Tryz.func60, Tryz.ntmps60
  go_wp2
  go_ret
  exact ⟨rfl, (Below.refl _ _).alloc (Nat.le_refl _) _⟩

theorem mul_in {a b A B : Int} (a0 : 0 ≤ a) (b0 : 0 ≤ b) (ha : a ≤ A) (hb : b ≤ B) : 0 ≤ a * b ∧ a * b ≤ A * B :=
  ⟨Int.mul_nonneg a0 b0, Int.mul_le_mul ha hb b0 (by omega)⟩

set_option maxHeartbeats 1000000 in
theorem words_any (ha nu ps pz cd bf st tn lg mi ma na ja : Int) (w : World) (h : May ha nu ps pz cd bf st tn lg mi ma na ja) :
    Calls Tryz.prog 23 #[cfV ha nu ps pz cd bf st tn lg mi ma na ja] w fun e w' => e = .returned (.int .i64 (1 + 2 * nu + ps * pz)) ∧ Below w.heap.size w w' := by
  have n0 := h.nu0
  have n1 := h.nu1
  obtain ⟨m0, m1⟩ := mul_in h.ps0 (by have := h.pz0; omega) h.ps1 h.pz1
  clear h
  have hk := Blk.new w #[.int .i64 ha, .int .i64 nu, .int .i64 ps, .int .i64 pz, .int .i64 cd, .int .i64 bf, .int .i64 st, .int .i64 tn, .int .i64 lg, .int .i64 mi, .int .i64 ma, .int .i64 na, .int .i64 ja] 23
  have hb : Below w.heap.size w (w.alloc (.cells #[.int .i64 ha, .int .i64 nu, .int .i64 ps, .int .i64 pz, .int .i64 cd, .int .i64 bf, .int .i64 st, .int .i64 tn, .int .i64 lg, .int .i64 mi, .int .i64 ma, .int .i64 na, .int .i64 ja] 23)) := (Below.refl _ _).alloc (Nat.le_refl _) _
  have HK := Lib.hid hk
  have HB := Lib.hid hb
  clear hk hb
  go_enter Tryz.func23, Tryz.ntmps23
  go_wp2_with fail
  generalize w.alloc (.cells #[.int .i64 ha, .int .i64 nu, .int .i64 ps, .int .i64 pz, .int .i64 cd, .int .i64 bf, .int .i64 st, .int .i64 tn, .int .i64 lg, .int .i64 mi, .int .i64 ma, .int .i64 na, .int .i64 ja] 23) = W at HK HB ⊢
  go_region_held3 (fun w' => w'.cell? ⟨w.heap.size, 0, none⟩ = some (.int .i64 ha) ∧ w'.cell? ⟨w.heap.size, 1, none⟩ = some (.int .i64 nu) ∧ w'.cell? ⟨w.heap.size, 2, none⟩ = some (.int .i64 ps) ∧ w'.cell? ⟨w.heap.size, 3, none⟩ = some (.int .i64 pz) ∧ w'.cell? ⟨w.heap.size, 4, none⟩ = some (.int .i64 cd) ∧ w'.cell? ⟨w.heap.size, 5, none⟩ = some (.int .i64 bf) ∧ w'.cell? ⟨w.heap.size, 6, none⟩ = some (.int .i64 st) ∧ w'.cell? ⟨w.heap.size, 7, none⟩ = some (.int .i64 tn) ∧ w'.cell? ⟨w.heap.size, 8, none⟩ = some (.int .i64 lg) ∧ w'.cell? ⟨w.heap.size, 9, none⟩ = some (.int .i64 mi) ∧ w'.cell? ⟨w.heap.size, 10, none⟩ = some (.int .i64 ma) ∧ w'.cell? ⟨w.heap.size, 11, none⟩ = some (.int .i64 na) ∧ w'.cell? ⟨w.heap.size, 12, none⟩ = some (.int .i64 ja)) (first | exact HK.out.drew.thirteen | exact (HK.out.drew.keep b1).thirteen) (first
    | (go_at_call 60; refine (mature_any _ _ _ _ _ _ _ _ _ _ _ _ _ _ n0 n1).mono ?_; rintro e w1 ⟨rfl, b1⟩))
  all_goals
    go_wp2
    go_ret
    exact ⟨retI (by rw [wrap_in (ps * pz) (by omega) (by omega), wrap_in _ (by omega) (by omega)]), below_trans HB.out.drew b1⟩

def clI (f lg : Int) : Int := if f < 0 then 0 else if lg < f then lg else f

def mostI (ha nu pz st lg mi ma f : Int) : Int := (((clI f lg + 2) * (mi + ma) + 8) * pz + (ha + st + 4 * nu)) * (lg + 4) * (2 * lg + 24)

theorem clI_in (f lg : Int) (h : 0 ≤ lg) : 0 ≤ clI f lg ∧ clI f lg ≤ lg := by
  unfold clI
  split
  · omega
  · split <;> omega

theorem most_in {ha nu pz st lg mi ma c : Int} (c0 : 0 ≤ c) (c1 : c ≤ 64) (mi0 : 0 ≤ mi) (mi1 : mi ≤ 64) (ma0 : 0 ≤ ma) (ma1 : ma ≤ 64) (pz0 : 16 ≤ pz) (pz1 : pz ≤ 256) (lg0 : 0 ≤ lg) (lg1 : lg ≤ 64)
    (ha0 : 1 ≤ ha) (ha1 : ha ≤ 64) (st0 : 1 ≤ st) (st1 : st ≤ 256) (nu0 : 8 ≤ nu) (nu1 : nu ≤ 4096) :
    (0 ≤ (c + 2) * (mi + ma) ∧ (c + 2) * (mi + ma) ≤ 8448) ∧ (128 ≤ ((c + 2) * (mi + ma) + 8) * pz ∧ ((c + 2) * (mi + ma) + 8) * pz ≤ 2164736) ∧
    (4 ≤ (((c + 2) * (mi + ma) + 8) * pz + (ha + st + 4 * nu)) * (lg + 4) ∧ (((c + 2) * (mi + ma) + 8) * pz + (ha + st + 4 * nu)) * (lg + 4) ≤ 148337920) ∧
    (0 < (((c + 2) * (mi + ma) + 8) * pz + (ha + st + 4 * nu)) * (lg + 4) * (2 * lg + 24) ∧ (((c + 2) * (mi + ma) + 8) * pz + (ha + st + 4 * nu)) * (lg + 4) * (2 * lg + 24) ≤ 22547363840) := by
  have p1 := mul_in (a := c + 2) (b := mi + ma) (A := 66) (B := 128) (by omega) (by omega) (by omega) (by omega)
  generalize (c + 2) * (mi + ma) = x1 at *
  have p2 := mul_in (a := x1 + 8) (b := pz) (A := 8456) (B := 256) (by omega) (by omega) (by omega) (by omega)
  have q2 : 8 * 16 ≤ (x1 + 8) * pz := Int.mul_le_mul (by omega) (by omega) (by omega) (by omega)
  generalize (x1 + 8) * pz = x2 at *
  have p3 := mul_in (a := x2 + (ha + st + 4 * nu)) (b := lg + 4) (A := 2181440) (B := 68) (by omega) (by omega) (by omega) (by omega)
  have q3 : 1 * 4 ≤ (x2 + (ha + st + 4 * nu)) * (lg + 4) := Int.mul_le_mul (by omega) (by omega) (by omega) (by omega)
  generalize (x2 + (ha + st + 4 * nu)) * (lg + 4) = x3 at *
  have p4 := mul_in (a := x3) (b := 2 * lg + 24) (A := 148337920) (B := 152) (by omega) (by omega) (by omega) (by omega)
  have q4 : 1 * 1 ≤ x3 * (2 * lg + 24) := Int.mul_le_mul (by omega) (by omega) (by omega) (by omega)
  generalize x3 * (2 * lg + 24) = x4 at *
  omega

end Go.Proofs.YthmhehehomieiaaGreat

/- A heap's parts in memory: the core's own block, its arena, its halves, its pages, what is noted, its stack, its table, its row; each lies in blocks of its own. -/
namespace Go.Proofs.YthmhehehomieiaaGreat
open Go.RowKit

/-- How a heap is made. -/
structure Cfg where
  (ha nu ps pz cd bf st tn lg mi ma na ja : Int)
abbrev Cfg.v (c : Cfg) : Value := cfV c.ha c.nu c.ps c.pz c.cd c.bf c.st c.tn c.lg c.mi c.ma c.na c.ja
abbrev Cfg.May (c : Cfg) : Prop := Proofs.YthmhehehomieiaaGreat.May c.ha c.nu c.ps c.pz c.cd c.bf c.st c.tn c.lg c.mi c.ma c.na c.ja

/-- What a heap has done. -/
structure Dn where
  (al wd pr mi ma yo ol fr : Int)

/-- Where a core's parts begin. -/
structure Pts where
  (a y o r g t : Nat)

/-- What a core holds; where its parts begin, which no call changes. -/
structure Co where
  cf : Cfg
  ws : List Int
  yn : Bool
  yu : Int
  yv : Int
  pgs : List Pg
  ps : List Bool
  rx : List Int
  rm : List Bool
  ry : List Int
  rn : List Bool
  gl : Bool
  gx : List Int
  hs : List Int
  par : Int
  ph : Int
  mv : Bool
  scan : Int
  cop : Int
  look : Int
  row : List Int
  wi : List Bool
  d : Dn
  pt : Pts

def Co.wrote (s : Co) (vs : List Int) : Co := { s with ws := vs }
def Co.halves (s : Co) (n : Bool) (u v : Int) : Co := { s with yn := n, yu := u, yv := v }
/-- Where something of n words stands from a on: it begins at a, nothing begins behind. -/
def wiS (wi : List Bool) (a : Nat) : Nat → List Bool
  | 0 => wi
  | n + 1 => (wiS wi a n).set (a + n) (decide (0 < n))
theorem wiS_len {wi : List Bool} {a : Nat} : ∀ n, (wiS wi a n).length = wi.length
  | 0 => rfl
  | n + 1 => by unfold wiS; rw [List.length_set, wiS_len n]
theorem wiS_far {wi : List Bool} {a i : Nat} (h : i < a) : ∀ n, (wiS wi a n)[i]? = wi[i]?
  | 0 => rfl
  | n + 1 => by unfold wiS; rw [List.getElem?_set_ne (by omega), wiS_far h n]
theorem wiS_past {wi : List Bool} {a i : Nat} : ∀ n, a + n ≤ i → (wiS wi a n)[i]? = wi[i]?
  | 0, _ => rfl
  | n + 1, h => by unfold wiS; rw [List.getElem?_set_ne (by omega), wiS_past n (by omega)]
theorem wiS_at {wi : List Bool} {a : Nat} (h : a < wi.length) : ∀ n, (wiS wi a (n + 1))[a]? = some false
  | 0 => by unfold wiS wiS; rw [Nat.add_zero, List.getElem?_set_self h]; rfl
  | n + 1 => by unfold wiS; rw [List.getElem?_set_ne (by omega)]; exact wiS_at h n

def Co.filled (s : Co) (k : Int) : Co := { s with yu := s.yu + k }
def Co.took (s : Co) (k : Int) : Co := { s with yu := s.yu + k, wi := wiS s.wi (hAt s.cf.nu 1 s.yn + s.yu).toNat k.toNat }
def Co.put (s : Co) (xs : List Int) : Co := { s with hs := xs }
def Co.did (s : Co) (x y : Int) : Co := { s with d := { s.d with al := x, wd := y } }

/-- Where a core's parts lie. -/
structure Pos where
  (b a y o r g t : Nat)
  rA : Option Addr
  rc : Nat
  wb : Nat
def Pos.pts (P : Pos) : Pts := ⟨P.a, P.y, P.o, P.r, P.g, P.t⟩

def coL (P : Pos) (s : Co) : Array Value :=
  #[.int .i64 s.cf.ha, .int .i64 s.cf.nu, .int .i64 s.cf.ps, .int .i64 s.cf.pz, .int .i64 s.cf.cd, .int .i64 s.cf.bf, .int .i64 s.cf.st, .int .i64 s.cf.tn, .int .i64 s.cf.lg, .int .i64 s.cf.mi, .int .i64 s.cf.ma, .int .i64 s.cf.na, .int .i64 s.cf.ja,
    arP P.a, bpP P.y, spP P.o, ptr P.r, grP P.g, htP P.t, .int .i64 s.par, .int .i64 s.ph, .bool s.mv, .int .i64 s.scan, .int .i64 s.cop, .int .i64 s.look, .slice P.rA s.row.length P.rc,
    .int .i64 s.d.al, .int .i64 s.d.wd, .int .i64 s.d.pr, .int .i64 s.d.mi, .int .i64 s.d.ma, .int .i64 s.d.yo, .int .i64 s.d.ol, .int .i64 s.d.fr, .slice (some ⟨P.wb, 0, none⟩) (1 + 2 * s.cf.nu).toNat (1 + 2 * s.cf.nu).toNat]

/-- Part number j lies in blocks of O. -/
def Prt (P : Pos) (s : Co) (w : World) (O : Nat → Prop) : Nat → Prop
  | 0 => Blk w P.b (coL P s) 42 ∧ O P.b
  | 1 => ∃ ab, Has w P.a ab s.ws ∧ O P.a ∧ O ab
  | 2 => IsBp w P.y s.cf.nu 1 s.yn s.yu s.yv ∧ O P.y
  | 3 => ∃ pb ub, IsSp w P.o pb ub (1 + 2 * s.cf.nu) s.cf.pz s.pgs s.ps ∧ ∀ k, SpS P.o pb ub s.pgs k → O k
  | 4 => ∃ p, IsSet w P.r p s.cf.bf (1 + 2 * s.cf.nu) (s.cf.ps * s.cf.pz) s.cf.cd s.rx s.rm s.ry s.rn ∧ ∀ k, p.own P.r k → O k
  | 5 => ∃ A c, IsGr w P.g s.cf.st s.gl A s.gx.length c s.gx ∧ O P.g ∧ ∀ k, blkOf A = some k → O k
  | 6 => ∃ tg, IsHt w P.t tg s.hs ∧ O P.t ∧ O tg
  | 7 => Qu w P.rA s.row.length P.rc s.row ∧ ∀ k, blkOf P.rA = some k → O k
  | 8 => Blk w P.wb (s.wi.map Value.bool).toArray 4 ∧ s.wi.length = (1 + 2 * s.cf.nu).toNat ∧ O P.wb
  | _ => True

structure IsCo (w : World) (P : Pos) (own : Nat → Nat → Prop) (s : Co) : Prop where
  prt : ∀ j, Prt P s w (own j) j
  lt : ∀ j k, own j k → k < w.heap.size
  ap : ∀ i j k, own i k → own j k → i = j
  may : s.cf.May
  wl : s.ws.length ≤ 1048576
  pts : s.pt = P.pts

/-- Block b is a core that holds s; it and its parts lie in blocks of S. -/
def Cr (w : World) (b : Nat) (S : Nat → Prop) (s : Co) : Prop := ∃ P own, IsCo w P own s ∧ P.b = b ∧ S = fun k => ∃ j, own j k

/-- Behind a call it holds s'. -/
def CoR (w : World) (b : Nat) (S : Nat → Prop) (s' : Co) (w' : World) : Prop := ∃ S', Cr w' b S' s' ∧ Mv S S' w w'

theorem Prt.frm {P : Pos} {s : Co} {w w' : World} {O T : Nat → Prop} {j : Nat} (h : Prt P s w O j) (f : Frm T w w') (dis : ∀ k, O k → ¬ T k) : Prt P s w' O j := by
  match j, h with
  | 0, ⟨h, o⟩ => exact ⟨h.frm f (dis _ o), o⟩
  | 1, ⟨ab, h, o1, o2⟩ => exact ⟨ab, ⟨h.choose, h.choose_spec.frm f (dis _ o1) (dis _ o2)⟩, o1, o2⟩
  | 2, ⟨h, o⟩ => exact ⟨h.frm f (dis _ o), o⟩
  | 3, ⟨pb, ub, h, o⟩ => exact ⟨pb, ub, h.stay fun k hk => f.block k (h.lt k hk) (dis _ (o k hk)), o⟩
  | 4, ⟨p, h, o⟩ => exact ⟨p, h.frm f fun k hk => dis _ (o k hk), o⟩
  | 5, ⟨A, c, h, o1, o2⟩ => exact ⟨A, c, h.frm f (dis _ o1) fun k hk => dis _ (o2 k hk), o1, o2⟩
  | 6, ⟨tg, h, o1, o2⟩ => exact ⟨tg, h.frm f (dis _ o1) (dis _ o2), o1, o2⟩
  | 7, ⟨h, o⟩ => exact ⟨h.frm f fun k hk => dis _ (o k hk), o⟩
  | 8, ⟨h, l, o⟩ => exact ⟨h.frm f (dis _ o), l, o⟩
  | _ + 9, _ => exact trivial

section
variable {w w' : World} {P P' : Pos} {own : Nat → Nat → Prop} {s s' : Co} {b : Nat} {S : Nat → Prop}

theorem IsCo.frm {T : Nat → Prop} (h : IsCo w P own s) (f : Frm T w w') (dis : ∀ j k, own j k → ¬ T k) : IsCo w' P own s :=
  { h with
    prt := fun j => (h.prt j).frm f (dis j)
    lt := fun j k hk => Nat.lt_of_lt_of_le (h.lt j k hk) f.size }
theorem Cr.lt (h : Cr w b S s) {k : Nat} (hk : S k) : k < w.heap.size := by
  obtain ⟨P, own, h, rfl, rfl⟩ := h
  exact h.lt _ k hk.choose_spec
theorem Cr.frm {T : Nat → Prop} (h : Cr w b S s) (f : Frm T w w') (dis : ∀ k, S k → ¬ T k) : Cr w' b S s := by
  obtain ⟨P, own, h, rfl, rfl⟩ := h
  exact ⟨P, own, h.frm f fun j k hk => dis k ⟨j, hk⟩, rfl, rfl⟩
theorem Cr.keep (h : Cr w b S s) (f : Below w.heap.size w w') : Cr w' b S s := h.frm (T := fun _ => False) (Frm.of_below f) fun _ _ e => e
theorem Cr.stay (h : Cr w b S s) (f : Below w.heap.size w w') : CoR w b S s w' := ⟨S, h.keep f, Mv.of_below f⟩
theorem Cr.same (h : Cr w b S s) : CoR w b S s w := ⟨S, h, Mv.of_below (Below.refl _ _)⟩
theorem CoR.pre {w1 : World} (f : Below w.heap.size w w1) (h : CoR w1 b S s w') : CoR w b S s w' := ⟨h.choose, h.choose_spec.1, h.choose_spec.2.pre f⟩
theorem CoR.post {w1 : World} (h : CoR w b S s w1) (f : Below w1.heap.size w1 w') : CoR w b S s w' := ⟨h.choose, h.choose_spec.1.keep f, h.choose_spec.2.post f⟩
theorem Cr.may (h : Cr w b S s) : s.cf.May := by
  obtain ⟨P, own, h, _, _⟩ := h
  exact h.may
theorem Cr.wl (h : Cr w b S s) : s.ws.length ≤ 1048576 := by
  obtain ⟨P, own, h, _, _⟩ := h
  exact h.wl
theorem Cr.few (h : Cr w b S s) : s.hs.length ≤ 64 := by
  obtain ⟨P, own, h, _, _⟩ := h
  obtain ⟨tg, ht, _⟩ := h.prt 6
  exact ht.few

/-- Part number j has turned. -/
theorem IsCo.turn (h : IsCo w P own s) (j : Nat) {O' : Nat → Prop} (f : Frm (own j) w w') (hp : Prt P' s' w' O' j) (at_ : ∀ k, O' k → own j k ∨ w.heap.size ≤ k) (lt' : ∀ k, O' k → k < w'.heap.size)
    (same : ∀ i, i ≠ j → ∀ v O, Prt P s v O i → Prt P' s' v O i) (hb : P'.b = P.b) (hcf : s'.cf = s.cf) (hwl : s'.ws.length = s.ws.length) (hpt : s'.pt = s.pt := by rfl) (hP : P'.pts = P.pts := by rfl) : CoR w P.b (fun k => ∃ j, own j k) s' w' := by
  have sp : ∀ i k, (if i = j then O' k else own i k) → own i k ∨ (i = j ∧ w.heap.size ≤ k) := fun i k hk => by
    by_cases e : i = j
    · subst e; rw [if_pos rfl] at hk; exact (at_ k hk).imp id fun h => ⟨rfl, h⟩
    · rw [if_neg e] at hk; exact .inl hk
  refine ⟨_, ⟨P', fun i k => if i = j then O' k else own i k, ⟨fun i => ?_, fun i k hk => ?_, fun i i' k hk hk' => ?_, by rw [hcf]; exact h.may, by rw [hwl]; exact h.wl, (hpt.trans h.pts).trans hP.symm⟩, hb, rfl⟩, f.mono fun k _ hk => ⟨j, hk⟩, fun k hk => ?_⟩
  · by_cases e : i = j
    · subst e
      simpa using hp
    · have := (h.prt i).frm f fun k hk hk' => e (h.ap _ _ k hk hk')
      simpa [e] using same i e w' _ this
  · by_cases e : i = j
    · subst e; rw [if_pos rfl] at hk; exact lt' k hk
    · rw [if_neg e] at hk; exact Nat.lt_of_lt_of_le (h.lt i k hk) f.size
  · rcases sp i k hk with h1 | ⟨e1, h1⟩
    · rcases sp i' k hk' with h2 | ⟨e2, h2⟩
      · exact h.ap _ _ k h1 h2
      · have := h.lt _ _ h1; omega
    · rcases sp i' k hk' with h2 | ⟨e2, h2⟩
      · have := h.lt _ _ h2; omega
      · omega
  · obtain ⟨i, hk⟩ := hk
    exact (sp i k hk).imp (fun h => ⟨i, h⟩) fun h => h.2

theorem Has.ltw {w : World} {a b : Nat} {ws : List Int} (h : Has w a b ws) : a < w.heap.size ∧ b < w.heap.size := ⟨h.choose_spec.ltA, h.choose_spec.ltB⟩

/-- The arena has turned. -/
theorem IsCo.arena (h : IsCo w P own s) {ab : Nat} {vs : List Int} (oa : own 1 P.a) (ob : own 1 ab) (n : Now P.a ab vs w w') (hl : vs.length = s.ws.length) : CoR w P.b (fun k => ∃ j, own j k) (s.wrote vs) w' := by
  refine h.turn 1 (P' := P) (O' := fun k => k = P.a ∨ k = ab) (n.frm.mono ?_) ⟨ab, n.is, .inl rfl, .inr rfl⟩ ?_ ?_ ?_ rfl rfl hl
  · rintro k _ (rfl | rfl) <;> assumption
  · rintro k (rfl | rfl)
    · exact .inl oa
    · exact .inl ob
  · rintro k (rfl | rfl)
    · exact n.is.ltw.1
    · exact n.is.ltw.2
  · intro i hi v O hp
    rcases i with _ | _ | _ | _ | _ | _ | _ | _ | _ | i <;> first | exact absurd rfl hi | exact hp
end
end Go.Proofs.YthmhehehomieiaaGreat

/- Contracts of the core's small functions: handle, held, young, old, leaving, Now, Move, Mark, Note where no cycle goes on; of none. -/
namespace Go.Proofs.YthmhehehomieiaaGreat
open Go.RowKit

def Co.has (s : Co) (h : Int) : Bool := decide (0 ≤ h) && decide (h < s.hs.length)
def Co.at_ (s : Co) (h : Int) : Int := if s.has h = true then s.hs.getD h.toNat 0 else 0
def Co.hE (s : Co) (h : Int) : Int := if s.has h = true then 0 else 3

theorem Co.has_yes {s : Co} {h : Int} (e : s.has h = true) : ∃ i : Nat, h = i ∧ i < s.hs.length ∧ s.hs[i]? = some (s.at_ h) ∧ s.hE h = 0 := by
  have e' := e
  unfold Co.has at e'
  rw [Bool.and_eq_true, decide_eq_true_eq, decide_eq_true_eq] at e'
  refine ⟨h.toNat, by omega, by omega, ?_, ?_⟩
  · unfold Co.at_
    rw [if_pos e, List.getD_eq_getElem?_getD, List.getElem?_eq_getElem (show h.toNat < s.hs.length by omega)]
    rfl
  · unfold Co.hE
    rw [if_pos e]
theorem Co.hE_yes {s : Co} {h : Int} (e : s.has h = true) : s.hE h = 0 := by unfold Co.hE; rw [if_pos e]
theorem Co.has_no {s : Co} {h : Int} (e : s.has h = false) : (h < 0 ∨ (s.hs.length : Int) ≤ h) ∧ s.at_ h = 0 ∧ s.hE h = 3 := by
  have e' := e
  unfold Co.has at e'
  rw [Bool.and_eq_false_iff, decide_eq_false_iff_not, decide_eq_false_iff_not] at e'
  refine ⟨by omega, ?_, ?_⟩
  · unfold Co.at_; rw [if_neg (by rw [e]; exact Bool.false_ne_true)]
  · unfold Co.hE; rw [if_neg (by rw [e]; exact Bool.false_ne_true)]

section
variable {w : World} {b : Nat} {S : Nat → Prop} {s : Co}

/-- The core's own cells. -/
theorem IsCo.cell {P : Pos} {own : Nat → Nat → Prop} (h : IsCo w P own s) (i : Nat) : w.cell? ⟨P.b, i, none⟩ = (coL P s)[i]? := (h.prt 0).1.cell i
theorem IsCo.frozen {P : Pos} {own : Nat → Nat → Prop} (h : IsCo w P own s) (i : Nat) : w.frozen? ⟨P.b, i, none⟩ = false := (h.prt 0).1.frozen i

set_option maxHeartbeats 1000000 in
theorem handle_any (hC : Cr w b S s) (h : Int) :
    Calls Tryz.prog 85 #[ptr b, .int .i64 h] w fun e w' => e = .returned (.tuple #[.int .i64 (s.at_ h), .int .i64 (s.hE h)]) ∧ w = w' := by
  obtain ⟨P, own, h0, rfl, rfl⟩ := hC
  have c18 : w.cell? ⟨P.b, 18, none⟩ = some (htP P.t) := h0.cell 18
  obtain ⟨tg, ht, _, _⟩ := h0.prt 6
  have HT := Lib.hid ht
  clear h0 ht
  cases e : s.has h
  · obtain ⟨e1, e2, e3⟩ := Co.has_no e
    rw [e2, e3]
    have E1 := Lib.hid e1
    clear e e1 e2 e3
    go_enter Tryz.func85, Tryz.ntmps85
    go_wp2_with fail
    refine (tbGet_no _ _ _ _ _ HT.out E1.out).mono ?_
    rintro e w1 ⟨rfl, rfl⟩
    go_wp2
    go_ret2
    exact ⟨rfl, rfl⟩
  · obtain ⟨i, rfl, hi, hx, e3⟩ := Co.has_yes e
    rw [e3]
    have HX := Lib.hid hx
    clear e e3 hx hi
    generalize s.at_ i = x at *
    go_enter Tryz.func85, Tryz.ntmps85
    go_wp2_with fail
    refine (tbGet_yes _ _ _ _ _ HT.out i HX.out).mono ?_
    rintro e w1 ⟨rfl, rfl⟩
    go_wp2
    go_ret2
    exact ⟨rfl, rfl⟩

set_option maxHeartbeats 400000 in
theorem handle_none (h : Int) (w : World) :
    Calls Tryz.prog 85 #[.pointer none, .int .i64 h] w fun e w' => e = .returned (.tuple #[.int .i64 0, .int .i64 1]) ∧ w = w' := by
  go_enter Tryz.func85, Tryz.ntmps85
  go_wp2
  go_ret2
  exact ⟨rfl, rfl⟩

abbrev hdO : Obj := .cells #[.int .i64 0, .int .i64 0, .int .i64 0, .int .i64 0, .bool false, .bool false, .bool false] 93

set_option maxHeartbeats 2000000 in
set_option maxRecDepth 100000 in
theorem held_none (h : Int) (w : World) :
    Calls Tryz.prog 89 #[.pointer none, .int .i64 h] w fun e w' => e = .returned (.tuple #[.int .i64 0, noV, .int .i64 1]) ∧ Below w.heap.size w w' := by
  go_enter Tryz.func89, Tryz.ntmps89
  go_wp2_with fail
  refine (handle_none _ _).mono ?_
  rintro e w1 ⟨rfl, rfl⟩
  go_wp2
  exact bodyPost_ret (v := .tuple #[.int .i64 0, noV, .int .i64 1]) (by simp [results, Tryz.results89, go_sem]) rfl ⟨rfl, (Below.refl _ _).alloc (Nat.le_refl _) _⟩

/-- What was made on the way, and is none of its blocks, has been written to. -/
theorem CoR.own {T : Nat → Prop} {u w1 w2 : World} (r : CoR w b S s w1) (b0 : Below u.heap.size u w) (f : Frm T w1 w2) (hT : ∀ k, T k → u.heap.size ≤ k ∧ k < w.heap.size ∧ ¬ S k) : CoR u b S s w2 := by
  obtain ⟨S', h, m⟩ := r
  refine ⟨S', h.frm f fun k hk ht => ?_, ((Frm.of_below (S := S) b0).trans m.frm fun _ _ e => e).trans f fun k hk ht => ?_, fun k hk => (m.at_ k hk).imp id fun h => Nat.le_trans b0.size h⟩
  · obtain ⟨_, h2, h3⟩ := hT k ht
    rcases m.at_ k hk with e | e
    · exact h3 e
    · omega
  · have := (hT k ht).1
    omega

theorem Frm.set7 {T : Nat → Prop} {w w' : World} (f : Frm T w w') (r : Nat) (hr : T r) (v0 v1 v2 v3 v4 v5 v6 : Value) :
    Frm T w (((((((w'.setCell ⟨r, 0, none⟩ v0).setCell ⟨r, 1, none⟩ v1).setCell ⟨r, 2, none⟩ v2).setCell ⟨r, 3, none⟩ v3).setCell ⟨r, 4, none⟩ v4).setCell ⟨r, 5, none⟩ v5).setCell ⟨r, 6, none⟩ v6) :=
  ((((((f.setCell (p := ⟨r, 0, none⟩) (fun _ => hr) _).setCell (p := ⟨r, 1, none⟩) (fun _ => hr) _).setCell (p := ⟨r, 2, none⟩) (fun _ => hr) _).setCell (p := ⟨r, 3, none⟩) (fun _ => hr) _).setCell (p := ⟨r, 4, none⟩) (fun _ => hr) _).setCell (p := ⟨r, 5, none⟩) (fun _ => hr) _).setCell (p := ⟨r, 6, none⟩) (fun _ => hr) _

/-- What is known of the world is kept, its spelling is not. -/
theorem then_world {K : Act → World → Prop} {Q : Exit → Act → World → Prop} {e : Exit} {a : Act} {W : World} (C : World → Prop) (hc : C W) (h : ∀ W, C W → Exit.then K Q e a W) : Exit.then K Q e a W := h W hc

abbrev hdB (w : World) (k : Nat) (z p g y : Int) (f1 f2 f3 : Bool) : Prop := Blk w k #[.int .i64 z, .int .i64 p, .int .i64 g, .int .i64 y, .bool f1, .bool f2, .bool f3] 93

theorem Blk.set7 {w1 : World} {k : Nat} {t : TypeId} {u0 u1 u2 u3 u4 u5 u6 : Value} (h : Blk w1 k #[u0, u1, u2, u3, u4, u5, u6] t) (v0 v1 v2 v3 v4 v5 v6 : Value) :
    Blk (((((((w1.setCell ⟨k, 0, none⟩ v0).setCell ⟨k, 1, none⟩ v1).setCell ⟨k, 2, none⟩ v2).setCell ⟨k, 3, none⟩ v3).setCell ⟨k, 4, none⟩ v4).setCell ⟨k, 5, none⟩ v5).setCell ⟨k, 6, none⟩ v6) k #[v0, v1, v2, v3, v4, v5, v6] t := by
  have e := ((((((h.set_ 0 v0).set_ 1 v1).set_ 2 v2).set_ 3 v3).set_ 4 v4).set_ 5 v5).set_ 6 v6
  simpa only [List.setIfInBounds_toArray, List.set_cons_zero, List.set_cons_succ] using e

theorem Cr.box (hC : Cr w b S s) (o : Obj) : Cr (w.alloc o) b S s := hC.keep ((Below.refl _ w).alloc (Nat.le_refl _) o)

set_option maxHeartbeats 1000000 in
theorem held_no (hC : Cr w b S s) (h : Int) (e0 : s.has h = false) :
    Calls Tryz.prog 89 #[ptr b, .int .i64 h] w fun e w' => e = .returned (.tuple #[.int .i64 0, noV, .int .i64 3]) ∧ Below w.heap.size w w' := by
  have H := handle_any (hC.box hdO) h
  have e2 := (Co.has_no e0).2.1
  have e3 := (Co.has_no e0).2.2
  rw [e2, e3] at H
  have H := Lib.hid H
  clear e0 e2 e3 hC
  go_enter Tryz.func89, Tryz.ntmps89
  go_wp2_with fail
  refine H.out.mono ?_
  rintro e w1 ⟨rfl, rfl⟩
  clear H
  go_wp2
  exact bodyPost_ret (v := .tuple #[.int .i64 0, noV, .int .i64 3]) (by simp [results, Tryz.results89, go_sem]) rfl ⟨rfl, (Below.refl _ _).alloc (Nat.le_refl _) _⟩

set_option maxHeartbeats 1000000 in
theorem held_nil (hC : Cr w b S s) (h : Int) (e0 : s.has h = true) (ea : s.at_ h = 0) :
    Calls Tryz.prog 89 #[ptr b, .int .i64 h] w fun e w' => e = .returned (.tuple #[.int .i64 0, noV, .int .i64 4]) ∧ Below w.heap.size w w' := by
  have H := handle_any (hC.box hdO) h
  have e3 := Co.hE_yes e0
  rw [ea, e3] at H
  have H := Lib.hid H
  clear e0 ea e3 hC
  go_enter Tryz.func89, Tryz.ntmps89
  go_wp2_with fail
  refine H.out.mono ?_
  rintro e w1 ⟨rfl, rfl⟩
  clear H
  go_wp2
  exact bodyPost_ret (v := .tuple #[.int .i64 0, noV, .int .i64 4]) (by simp [results, Tryz.results89, go_sem]) rfl ⟨rfl, (Below.refl _ _).alloc (Nat.le_refl _) _⟩

theorem CoR.blk {w' : World} {s' : Co} (h : CoR w b S s' w') {k : Nat} {cs : Array Value} {t : TypeId} (hk : Blk w k cs t) (hn : ¬ S k) : Blk w' k cs t := hk.frm h.choose_spec.2.frm hn

/-- A local box, made behind the core, is none of its blocks. -/
theorem Cr.new (h : Cr w b S s) {k : Nat} (hk : w.heap.size ≤ k) : ¬ S k := fun e => by have := h.lt e; omega

/-- The head of an object is read. -/
theorem head_co {w : World} {b : Nat} {S : Nat → Prop} {s : Co} (hC : Cr w b S s) (x z p g y : Int) (f1 f2 f3 : Bool) (x0 : 0 < x) (hw : s.ws[x.toNat]? = some (wordI z p g y f1 f2 f3)) (hg : goodB z p g y = true) :
    ∃ a : Nat, w.cell? ⟨b, 13, none⟩ = some (arP a) ∧ Calls Tryz.prog 54 #[arP a, .int .i64 x] w fun e w' => e = .returned (.tuple #[hdV z p g y f1 f2 f3, .int .i64 0]) ∧ CoR w b S s w' := by
  obtain ⟨P, own, h0, rfl, rfl⟩ := hC
  obtain ⟨ab, ha, oa, ob⟩ := h0.prt 1
  obtain ⟨q1, q2, q3, q4, q5, q6, q7⟩ := split_word _ _ _ _ f1 f2 f3 hg
  obtain ⟨w0, w9⟩ := word_bounds _ _ _ _ f1 f2 f3 hg
  have hl := (List.getElem?_eq_some_iff.1 hw).1
  refine ⟨P.a, h0.cell 13, (head_yes _ _ _ _ ha h0.wl x _ ⟨by omega, by omega⟩ hw (by omega) (by omega) (isHd_word _ _ _ _ _ _ _ hg)).mono ?_⟩
  unfold unV
  rw [q1, q2, q3, q4, q5, q6, q7]
  rintro e w1 ⟨rfl, n1⟩
  exact ⟨rfl, h0.arena oa ob n1 rfl⟩

set_option maxHeartbeats 6000000 in
theorem held_yes (hC : Cr w b S s) (h : Int) (e0 : s.has h = true) (x z p g y : Int) (f1 f2 f3 : Bool) (hx : s.at_ h = x) (x0 : 0 < x) (hw : s.ws[x.toNat]? = some (wordI z p g y f1 f2 f3)) (hg : goodB z p g y = true) :
    Calls Tryz.prog 89 #[ptr b, .int .i64 h] w fun e w' => e = .returned (.tuple #[.int .i64 x, hdV z p g y f1 f2 f3, .int .i64 0]) ∧ CoR w b S s w' := by
  have k := hC.box hdO
  have H := handle_any k h
  have e3 := Co.hE_yes e0
  rw [hx, e3] at H
  have H := Lib.hid H
  have X : ¬ x = 0 := by omega
  obtain ⟨a, c13, hd⟩ := head_co k x z p g y f1 f2 f3 x0 hw hg
  have HD := Lib.hid hd
  have nb := Lib.hid (hC.new (Nat.le_refl _))
  have bx := Lib.hid (Blk.new w #[.int .i64 0, .int .i64 0, .int .i64 0, .int .i64 0, .bool false, .bool false, .bool false] 93)
  have L := Lib.hid ((Below.refl _ w).alloc (Nat.le_refl _) hdO)
  clear e0 hx e3 hC x0 hw hg k hd
  go_enter Tryz.func89, Tryz.ntmps89
  go_wp2_with fail
  refine H.out.mono ?_
  rintro e w1 ⟨rfl, rfl⟩
  clear H
  go_wp2_with fail
  refine HD.out.mono ?_
  rintro e w1 ⟨rfl, r1⟩
  have z1 := r1.blk bx.out nb.out
  have R1 := Lib.hid r1
  have lt := z1.lt
  have Z1 := Lib.hid z1
  obtain ⟨d0, d1, d2, d3, d4, d5, d6, df⟩ := z1.seven
  clear r1 z1 c13 HD
  go_wp2
  go_region
  all_goals
    clear d0 d1 d2 d3 d4 d5 d6 df
    refine then_world (fun W => hdB W w.heap.size z p g y f1 f2 f3 ∧ Frm (fun k => k = w.heap.size) w1 W) ⟨((Blk.set7 Z1.out _ _ _ _ _ _ _).alloc _).drew, (((Frm.refl (fun k => k = w.heap.size) w1).set7 _ rfl _ _ _ _ _ _ _).alloc _).drew⟩ ?_
    rintro W ⟨k1, fr⟩
    have RE := Lib.hid (R1.out.own L.out fr fun k e => ⟨by omega, by subst e; simp, by subst e; exact nb.out⟩)
    obtain ⟨d0, d1, d2, d3, d4, d5, d6, df⟩ := k1.seven
    clear k1 fr Z1 R1 L nb bx
    go_wp2
    exact bodyPost_ret (v := .tuple #[.int .i64 x, hdV z p g y f1 f2 f3, .int .i64 0]) (by simp [results, Tryz.results89, go_sem, d0, d1, d2, d3, d4, d5, d6]) rfl ⟨rfl, RE.out⟩
end
end Go.Proofs.YthmhehehomieiaaGreat

/- Contracts of young, old; of leaving, Now, Move, Mark, Note where no cycle goes on, and of none; of the tests of fields. -/
namespace Go.Proofs.YthmhehehomieiaaGreat
open Go.RowKit

/-- Does a place stand in the nursery? -/
def Co.youngB (s : Co) (x : Int) : Bool := inH (hAt s.cf.nu 1 s.yn) s.yu x || inH (hAt s.cf.nu 1 (!s.yn)) s.yv x
/-- Does an old object begin there? -/
def Co.oldB (s : Co) (x : Int) : Bool := ((cellsP (1 + 2 * s.cf.nu) s.cf.pz s.pgs).find? (hitB x)).isSome

/-- No cycle goes on: nothing is in the half that is emptied, nothing is old, no colour is looked for. -/
structure Co.Calm (s : Co) : Prop where
  left : s.yv = 0
  half : s.yn = false
  idle : s.ph = 0
  still : s.mv = false
  none : cellsP (1 + 2 * s.cf.nu) s.cf.pz s.pgs = []

theorem inH_none (a x : Int) : inH a 0 x = false := by
  unfold inH
  rw [Bool.and_eq_false_iff, decide_eq_false_iff_not, decide_eq_false_iff_not]
  omega

theorem Co.Calm.from_ {s : Co} (h : s.Calm) (x : Int) : inH (hAt s.cf.nu 1 (!s.yn)) s.yv x = false := by rw [h.left]; exact inH_none _ _
theorem Co.Calm.old {s : Co} (h : s.Calm) (x : Int) : s.oldB x = false := by unfold Co.oldB; rw [h.none]; rfl

section
variable {w : World} {b : Nat} {S : Nat → Prop} {s : Co}

theorem Cr.half (hC : Cr w b S s) : ∃ y : Nat, w.cell? ⟨b, 14, Option.none⟩ = some (bpP y) ∧ IsBp w y s.cf.nu 1 s.yn s.yu s.yv := by
  obtain ⟨P, own, h0, rfl, rfl⟩ := hC
  exact ⟨P.y, h0.cell 14, (h0.prt 2).1⟩

set_option maxHeartbeats 1000000 in
theorem young_any (hC : Cr w b S s) (x : Int) :
    Calls Tryz.prog 95 #[ptr b, .int .i64 x] w fun e w' => e = .returned (.bool (s.youngB x)) ∧ Below w.heap.size w w' := by
  have HC := Lib.hid hC
  obtain ⟨y, c14, hy⟩ := hC.half
  have HY := Lib.hid hy
  unfold Co.youngB
  clear hC hy
  cases e1 : inH (hAt s.cf.nu 1 s.yn) s.yu x
  · have H1 := bIn_any y _ _ _ _ _ w x HY.out
    rw [e1] at H1
    have H1 := Lib.hid H1
    have G2 := Lib.hid (fun w' k => bFrom_any y _ _ _ _ _ w' x (IsBp.keep HY.out k))
    generalize inH (hAt s.cf.nu 1 (!s.yn)) s.yv x = r at *
    clear e1
    go_enter Tryz.func95, Tryz.ntmps95
    go_wp2_with fail
    refine H1.out.mono ?_
    rintro e w1 ⟨rfl, b1⟩
    have B1 := Lib.hid b1
    have d14 : w1.cell? ⟨b, 14, Option.none⟩ = some (bpP y) := by
      obtain ⟨y', c', _⟩ := (HC.out.keep b1).half
      obtain ⟨P, own, h0, rfl, _⟩ := HC.out
      exact (b1.cell (p := ⟨P.b, 14, Option.none⟩) (h0.prt 0).1.lt).trans c14
    clear b1 c14 H1
    go_wp2_with fail
    refine (G2.out _ B1.out).mono ?_
    rintro e w2 ⟨rfl, b2⟩
    have B2 := Lib.hid (below_trans B1.out b2)
    clear b2 B1 d14
    go_wp2
    go_ret
    exact ⟨by simp, B2.out⟩
  · have H1 := bIn_any y _ _ _ _ _ w x HY.out
    rw [e1] at H1
    have H1 := Lib.hid H1
    clear e1
    go_enter Tryz.func95, Tryz.ntmps95
    go_wp2_with fail
    refine H1.out.mono ?_
    rintro e w1 ⟨rfl, b1⟩
    have B1 := Lib.hid b1
    clear b1 c14 H1
    go_wp2
    go_ret
    exact ⟨by simp, B1.out⟩

set_option maxHeartbeats 1000000 in
theorem old_any (hC : Cr w b S s) (x : Int) (x0 : -9223372036854775808 ≤ x) (x1 : x ≤ 9223372036854775807) :
    Calls Tryz.prog 78 #[ptr b, .int .i64 x] w fun e w' => e = .returned (.bool (s.oldB x)) ∧ Below w.heap.size w w' := by
  obtain ⟨P, own, h0, rfl, rfl⟩ := hC
  have c15 : w.cell? ⟨P.b, 15, Option.none⟩ = some (spP P.o) := h0.cell 15
  obtain ⟨pb, ub, hp, _⟩ := h0.prt 3
  have H := mSize_any _ _ _ _ _ _ _ x w hp x0 x1
  unfold Co.oldB
  unfold sizeV at H
  unfold spP at c15 H
  cases e1 : (cellsP (1 + 2 * s.cf.nu) s.cf.pz s.pgs).find? (hitB x) with
  | none =>
    rw [e1] at H
    have H := Lib.hid H
    clear h0 hp e1
    go_enter Tryz.func78, Tryz.ntmps78
    go_wp2_with fail
    refine H.out.mono ?_
    rintro e w1 ⟨rfl, b1⟩
    have B1 := Lib.hid b1
    clear b1 H
    go_wp2
    go_ret
    exact ⟨rfl, B1.out⟩
  | some c =>
    rw [e1] at H
    have H := Lib.hid H
    clear h0 hp e1
    go_enter Tryz.func78, Tryz.ntmps78
    go_wp2_with fail
    refine H.out.mono ?_
    rintro e w1 ⟨rfl, b1⟩
    have B1 := Lib.hid b1
    clear b1 H
    go_wp2
    go_ret
    exact ⟨rfl, B1.out⟩

set_option maxHeartbeats 1000000 in
theorem leaving_none (x : Int) (w : World) :
    Calls Tryz.prog 80 #[.pointer Option.none, .int .i64 x] w fun e w' => e = .returned (.tuple #[noV, .int .i64 x, .bool false]) ∧ Below w.heap.size w w' := by
  go_enter Tryz.func80, Tryz.ntmps80
  go_wp2
  exact bodyPost_ret (v := .tuple #[noV, .int .i64 x, .bool false]) (by simp [results, Tryz.results80, go_sem]) rfl ⟨rfl, (Below.refl _ _).alloc (Nat.le_refl _) _⟩

set_option maxHeartbeats 1000000 in
/-- Of a place that is not in the half that is emptied. -/
theorem leaving_no (hC : Cr w b S s) (x : Int) (hx : inH (hAt s.cf.nu 1 (!s.yn)) s.yv x = false) :
    Calls Tryz.prog 80 #[ptr b, .int .i64 x] w fun e w' => e = .returned (.tuple #[noV, .int .i64 x, .bool false]) ∧ Below w.heap.size w w' := by
  obtain ⟨y, c14, hy⟩ := (hC.box hdO).half
  have H := bFrom_any y _ _ _ _ _ _ x hy
  rw [hx] at H
  have H := Lib.hid H
  have bx := Lib.hid (Blk.new w #[.int .i64 0, .int .i64 0, .int .i64 0, .int .i64 0, .bool false, .bool false, .bool false] 93)
  clear hC hy hx
  go_enter Tryz.func80, Tryz.ntmps80
  go_wp2_with fail
  refine H.out.mono ?_
  rintro e w1 ⟨rfl, b1⟩
  obtain ⟨d0, d1, d2, d3, d4, d5, d6, df⟩ := (bx.out.keep b1).seven
  have B1 := Lib.hid (below_alloc_trans _ b1)
  clear b1 H bx c14
  go_wp2
  exact bodyPost_ret (v := .tuple #[noV, .int .i64 x, .bool false]) (by simp [results, Tryz.results80, go_sem, d0, d1, d2, d3, d4, d5, d6]) rfl ⟨rfl, below_set7 B1.out _ (Nat.le_refl _) _ _ _ _ _ _ _⟩

/-- Now or Move of a place whose leaving says no. -/
theorem now_of {p : Value} (x : Int) (w : World) (H : Calls Tryz.prog 80 #[p, .int .i64 x] w fun e w' => e = .returned (.tuple #[noV, .int .i64 x, .bool false]) ∧ Below w.heap.size w w') :
    Calls Tryz.prog 31 #[p, .int .i64 x] w fun e w' => e = .returned (.int .i64 x) ∧ Below w.heap.size w w' := by
  have H := Lib.hid H
  go_enter Tryz.func31, Tryz.ntmps31
  go_wp2_with fail
  refine H.out.mono ?_
  rintro e w1 ⟨rfl, b1⟩
  have B1 := Lib.hid (b1.alloc b1.size hdO)
  clear b1 H
  go_wp2
  go_ret
  exact ⟨rfl, B1.out⟩

set_option maxHeartbeats 1000000 in
theorem move_of {p : Value} (x : Int) (w : World) (H : Calls Tryz.prog 80 #[p, .int .i64 x] w fun e w' => e = .returned (.tuple #[noV, .int .i64 x, .bool false]) ∧ Below w.heap.size w w') :
    Calls Tryz.prog 32 #[p, .int .i64 x] w fun e w' => e = .returned (.int .i64 x) ∧ Below w.heap.size w w' := by
  have H := Lib.hid H
  go_enter Tryz.func32, Tryz.ntmps32
  go_wp2_with fail
  refine H.out.mono ?_
  rintro e w1 ⟨rfl, b1⟩
  have B1 := Lib.hid (b1.alloc b1.size hdO)
  clear b1 H
  go_wp2
  go_ret
  exact ⟨rfl, B1.out⟩

set_option maxHeartbeats 400000 in
theorem mark_none (x : Int) (w : World) : Calls Tryz.prog 29 #[.pointer Option.none, .int .i64 x] w fun e w' => e = .returned (.tuple #[]) ∧ w = w' := by
  go_enter Tryz.func29, Tryz.ntmps29
  go_wp2
  first | go_end0 | refine bodyPost_ret (results_none rfl _ _ _) rfl ?_
  exact ⟨rfl, rfl⟩

set_option maxHeartbeats 400000 in
theorem note_none (x : Int) (w : World) : Calls Tryz.prog 30 #[.pointer Option.none, .int .i64 x] w fun e w' => e = .returned (.tuple #[]) ∧ w = w' := by
  go_enter Tryz.func30, Tryz.ntmps30
  go_wp2
  first | go_end0 | refine bodyPost_ret (results_none rfl _ _ _) rfl ?_
  exact ⟨rfl, rfl⟩

set_option maxHeartbeats 1000000 in
/-- In another phase than Marks nothing is marked. -/
theorem mark_no (hC : Cr w b S s) (x : Int) (hp : s.ph ≠ 1) :
    Calls Tryz.prog 29 #[ptr b, .int .i64 x] w fun e w' => e = .returned (.tuple #[]) ∧ w = w' := by
  obtain ⟨P, own, h0, rfl, rfl⟩ := hC
  have c20 : w.cell? ⟨P.b, 20, Option.none⟩ = some (.int .i64 s.ph) := h0.cell 20
  clear h0
  go_enter Tryz.func29, Tryz.ntmps29
  go_wp2
  first | go_end0 | refine bodyPost_ret (results_none rfl _ _ _) rfl ?_
  exact ⟨rfl, rfl⟩

set_option maxHeartbeats 1000000 in
/-- What is not old is not noted. -/
theorem note_no (hC : Cr w b S s) (x : Int) (x0 : -9223372036854775808 ≤ x) (x1 : x ≤ 9223372036854775807) (ho : s.oldB x = false) :
    Calls Tryz.prog 30 #[ptr b, .int .i64 x] w fun e w' => e = .returned (.tuple #[]) ∧ Below w.heap.size w w' := by
  have H := old_any hC x x0 x1
  rw [ho] at H
  have H := Lib.hid H
  clear hC ho
  go_enter Tryz.func30, Tryz.ntmps30
  go_wp2_with fail
  refine H.out.mono ?_
  rintro e w1 ⟨rfl, b1⟩
  have B1 := Lib.hid b1
  clear b1 H
  go_wp2
  first | go_end0 | refine bodyPost_ret (results_none rfl _ _ _) rfl ?_
  exact ⟨rfl, B1.out⟩

def refB (p n : Int) : Bool := decide (0 ≤ n) && decide (n < p)
def scaB (z p n : Int) : Bool := decide (0 ≤ n) && decide (n < z - p)

set_option maxHeartbeats 1000000 in
theorem isRef_any (z p g y n : Int) (f1 f2 f3 : Bool) (w : World) :
    Calls Tryz.prog 90 #[hdV z p g y f1 f2 f3, .int .i64 n] w fun e w' => e = .returned (.bool (refB p n)) ∧ Below w.heap.size w w' := by
  unfold refB
  by_cases h0 : 0 ≤ n
  · have e0 : decide (0 ≤ n) = true := decide_eq_true h0
    rw [e0]
    go_enter Tryz.func90, Tryz.ntmps90
    go_wp2
    go_ret
    exact ⟨by simp, (Below.refl _ _).alloc (Nat.le_refl _) _⟩
  · have e0 : decide (0 ≤ n) = false := decide_eq_false h0
    rw [e0]
    go_enter Tryz.func90, Tryz.ntmps90
    go_wp2
    go_ret
    exact ⟨rfl, (Below.refl _ _).alloc (Nat.le_refl _) _⟩

set_option maxHeartbeats 1000000 in
theorem isSca_any (z p g y n : Int) (f1 f2 f3 : Bool) (w : World) (z0 : 0 ≤ p) (z1 : p ≤ z) (z2 : z ≤ 64) :
    Calls Tryz.prog 92 #[hdV z p g y f1 f2 f3, .int .i64 n] w fun e w' => e = .returned (.bool (scaB z p n)) ∧ Below w.heap.size w w' := by
  unfold scaB
  have hw : IntKind.i64.wrap (z - p) = z - p := IntWalk.i64_in _ (by omega)
  by_cases h0 : 0 ≤ n
  · have e0 : decide (0 ≤ n) = true := decide_eq_true h0
    rw [e0]
    go_enter Tryz.func92, Tryz.ntmps92
    go_wp2
    go_ret
    exact ⟨by simp, (Below.refl _ _).alloc (Nat.le_refl _) _⟩
  · have e0 : decide (0 ≤ n) = false := decide_eq_false h0
    rw [e0]
    go_enter Tryz.func92, Tryz.ntmps92
    go_wp2
    go_ret
    exact ⟨rfl, (Below.refl _ _).alloc (Nat.le_refl _) _⟩
end
end Go.Proofs.YthmhehehomieiaaGreat

/- A core on the way through a call, with boxes beside it; its parts' calls; take, Make. -/
namespace Go.Proofs.YthmhehehomieiaaGreat
open Go.RowKit

/-- On the way from w0: the core holds s; blocks of Z, made on the way, are none of its own. -/
structure Cw (w0 w : World) (S0 Z : Nat → Prop) (b : Nat) (s : Co) : Prop where
  is : ∃ S, Cr w b S s ∧ Mv S0 S w0 w ∧ ∀ k, Z k → ¬ S k
  low : ∀ k, Z k → w0.heap.size ≤ k ∧ k < w.heap.size

section
variable {w0 w w' : World} {S0 S Z Z' : Nat → Prop} {b : Nat} {s s' : Co}

theorem Cr.way (h : Cr w b S s) : Cw w w S noZ b s := ⟨⟨S, h, Mv.of_below (Below.refl _ _), fun _ e => e.elim⟩, fun _ e => e.elim⟩
theorem Cw.done (h : Cw w0 w S0 Z b s) : CoR w0 b S0 s w := let ⟨S, h1, h2, _⟩ := h.is; ⟨S, h1, h2⟩
theorem Cw.after (h : Cw w0 w S0 Z b s) (m : Mv S0 S w0 w) (z : ∀ k, Z k → ¬ S k) (r : CoR w b S s' w') : Cw w0 w' S0 Z b s' ∧ Kp Z w w' := by
  obtain ⟨S', c, m'⟩ := r
  refine ⟨⟨⟨S', c, m.trans m', fun k hz hk => ?_⟩, fun k hz => ⟨(h.low k hz).1, Nat.lt_of_lt_of_le (h.low k hz).2 m'.frm.size⟩⟩, m'.frm.mono fun k _ hk hz => z k hz hk⟩
  rcases m'.at_ k hk with e | e
  · exact z k hz e
  · have := (h.low k hz).2; omega
theorem Cw.grow (h : Cw w0 w S0 Z b s) (f : Below w.heap.size w w') (hz : ∀ k, Z' k → Z k ∨ (w.heap.size ≤ k ∧ k < w'.heap.size)) : Cw w0 w' S0 Z' b s := by
  obtain ⟨S, c, m, z⟩ := h.is
  refine ⟨⟨S, c.keep f, m.post f, fun k hk hs => ?_⟩, fun k hk => ?_⟩
  · rcases hz k hk with e | e
    · exact z k e hs
    · have := c.lt hs; omega
  · rcases hz k hk with e | e
    · exact ⟨(h.low k e).1, Nat.lt_of_lt_of_le (h.low k e).2 f.size⟩
    · exact ⟨Nat.le_trans m.frm.size e.1, e.2⟩
theorem Cw.keep (h : Cw w0 w S0 Z b s) (f : Below w.heap.size w w') : Cw w0 w' S0 Z b s := h.grow f fun _ => .inl
theorem Cw.box (h : Cw w0 w S0 Z b s) (o : Obj) : Cw w0 (w.alloc o) S0 (fun k => Z k ∨ k = w.heap.size) b s :=
  h.grow ((Below.refl _ w).alloc (Nat.le_refl _) o) fun k hk => hk.imp id fun e => ⟨by omega, by subst e; simp⟩
/-- A box was written to. -/
theorem Cw.write {T : Nat → Prop} (h : Cw w0 w S0 Z b s) (f : Frm T w w') (hT : ∀ k, T k → Z k) : Cw w0 w' S0 Z b s := by
  obtain ⟨S, c, m, z⟩ := h.is
  refine ⟨⟨S, c.frm f fun k hk ht => z k (hT k ht) hk, ⟨m.frm.trans f fun k hk ht => ?_, m.at_⟩, z⟩, fun k hk => ⟨(h.low k hk).1, Nat.lt_of_lt_of_le (h.low k hk).2 f.size⟩⟩
  have := (h.low k (hT k ht)).1
  omega
theorem Cw.call {P : Program} {fn : FuncId} {args : Array Value} {R : Ending → Prop} (h : Cw w0 w S0 Z b s) (c : ∀ S, Cr w b S s → Calls P fn args w fun e w' => R e ∧ CoR w b S s' w') :
    Calls P fn args w fun e w' => R e ∧ Cw w0 w' S0 Z b s' ∧ Kp Z w w' := by
  obtain ⟨S, k, m, z⟩ := h.is
  exact (c S k).mono fun e w' ⟨r, q⟩ => ⟨r, h.after m z q⟩
theorem Cw.cr (h : Cw w0 w S0 Z b s) : ∃ S, Cr w b S s ∧ ∀ k, Z k → ¬ S k := let ⟨S, c, _, z⟩ := h.is; ⟨S, c, z⟩

/-- The halves have turned. -/
theorem IsCo.young {P : Pos} {own : Nat → Nat → Prop} (h : IsCo w P own s) {n : Bool} {u v : Int} (k : IsBp w' P.y s.cf.nu 1 n u v) (f : Frm (fun k => k = P.y) w w') :
    CoR w P.b (fun k => ∃ j, own j k) (s.halves n u v) w' := by
  obtain ⟨hb, oy⟩ := h.prt 2
  refine h.turn 2 (P' := P) (O' := own 2) (f.mono ?_) ⟨k, oy⟩ (fun k e => .inl e) (fun k e => Nat.lt_of_lt_of_le (h.lt _ _ e) f.size) ?_ rfl rfl rfl
  · rintro k _ rfl; exact oy
  · intro i hi v O hp
    rcases i with _ | _ | _ | _ | _ | _ | _ | _ | _ | i <;> first | exact absurd rfl hi | exact hp

/-- The table has turned. -/
theorem IsCo.table {P : Pos} {own : Nat → Nat → Prop} (h : IsCo w P own s) {tg : Nat} (og : own 6 tg) {xs : List Int} (k : IsHt w' P.t tg xs) (f : Frm (fun k => k = tg) w w') :
    CoR w P.b (fun k => ∃ j, own j k) (s.put xs) w' := by
  obtain ⟨tg', ht, ot, og'⟩ := h.prt 6
  refine h.turn 6 (P' := P) (O' := own 6) (f.mono ?_) ⟨tg, k, ot, og⟩ (fun k e => .inl e) (fun k e => Nat.lt_of_lt_of_le (h.lt _ _ e) f.size) ?_ rfl rfl rfl
  · rintro k _ rfl; exact og
  · intro i hi v O hp
    rcases i with _ | _ | _ | _ | _ | _ | _ | _ | _ | i <;> first | exact absurd rfl hi | exact hp

/-- What a handle holds is set. -/
theorem tset_co (hC : Cr w b S s) (j : Nat) (hj : j < s.hs.length) (x : Int) :
    ∃ t : Nat, w.cell? ⟨b, 18, Option.none⟩ = some (htP t) ∧ Calls Tryz.prog 88 #[htP t, .int .i64 j, .int .i64 x] w fun e w' => e = .returned (.int .i64 0) ∧ CoR w b S (s.put (s.hs.set j x)) w' := by
  obtain ⟨P, own, h0, rfl, rfl⟩ := hC
  obtain ⟨tg, ht, ot, og⟩ := h0.prt 6
  refine ⟨P.t, h0.cell 18, (tbSet_yes _ _ _ x _ ht j hj).mono ?_⟩
  rintro e w1 ⟨rfl, k, f⟩
  exact ⟨rfl, h0.table og k f⟩

/-- A handle that there is not is not set. -/
theorem tset_no (hC : Cr w b S s) (h x : Int) (hn : h < 0 ∨ (s.hs.length : Int) ≤ h) :
    ∃ t : Nat, w.cell? ⟨b, 18, Option.none⟩ = some (htP t) ∧ Calls Tryz.prog 88 #[htP t, .int .i64 h, .int .i64 x] w fun e w' => e = .returned (.int .i64 3) ∧ w = w' := by
  obtain ⟨P, own, h0, rfl, rfl⟩ := hC
  obtain ⟨tg, ht, ot, og⟩ := h0.prt 6
  exact ⟨P.t, h0.cell 18, tbSet_no _ _ _ h _ x ht hn⟩

/-- A field is read. -/
theorem field_co (hC : Cr w b S s) (at_ n x : Int) (n0 : 0 ≤ n) (n1 : n < 64) (a0 : 0 ≤ at_) (hx : s.ws[(at_ + (2 + n)).toNat]? = some x) :
    ∃ a : Nat, w.cell? ⟨b, 13, Option.none⟩ = some (arP a) ∧ Calls Tryz.prog 91 #[arP a, .int .i64 at_, .int .i64 n] w fun e w' => e = .returned (.tuple #[.int .u64 x, .int .i64 0]) ∧ CoR w b S s w' := by
  obtain ⟨P, own, h0, rfl, rfl⟩ := hC
  obtain ⟨ab, ha, oa, ob⟩ := h0.prt 1
  have hl := (List.getElem?_eq_some_iff.1 hx).1
  refine ⟨P.a, h0.cell 13, (field_yes _ _ _ _ ha h0.wl at_ n x n0 n1 ⟨by omega, by omega⟩ hx).mono ?_⟩
  rintro e w1 ⟨rfl, n1⟩
  exact ⟨rfl, h0.arena oa ob n1 rfl⟩

/-- A field is read, and the arena is where it was. -/
theorem field_co2 (hC : Cr w b S s) (at_ n x : Int) (n0 : 0 ≤ n) (n1 : n < 64) (a0 : 0 ≤ at_) (hx : s.ws[(at_ + (2 + n)).toNat]? = some x) :
    ∃ a : Nat, w.cell? ⟨b, 13, Option.none⟩ = some (arP a) ∧ Calls Tryz.prog 91 #[arP a, .int .i64 at_, .int .i64 n] w fun e w' => e = .returned (.tuple #[.int .u64 x, .int .i64 0]) ∧ CoR w b S s w' ∧ w'.cell? ⟨b, 13, Option.none⟩ = some (arP a) := by
  obtain ⟨P, own, h0, rfl, rfl⟩ := hC
  obtain ⟨ab, ha, oa, ob⟩ := h0.prt 1
  have hl := (List.getElem?_eq_some_iff.1 hx).1
  refine ⟨P.a, h0.cell 13, (field_yes _ _ _ _ ha h0.wl at_ n x n0 n1 ⟨by omega, by omega⟩ hx).mono ?_⟩
  rintro e w1 ⟨rfl, n1⟩
  refine ⟨rfl, h0.arena oa ob n1 rfl, ?_⟩
  have o0 := (h0.prt 0).2
  exact ((h0.prt 0).1.frm n1.frm (by
    rintro (e | e)
    · have := h0.ap 0 1 _ o0 (e ▸ oa); omega
    · have := h0.ap 0 1 _ o0 (e ▸ ob); omega)).cell 13

/-- A field is written. -/
theorem setField_co (hC : Cr w b S s) (at_ n x : Int) (n0 : 0 ≤ n) (n1 : n < 64) (a0 : 0 ≤ at_) (hl : (at_ + (2 + n)).toNat < s.ws.length) :
    ∃ a : Nat, w.cell? ⟨b, 13, Option.none⟩ = some (arP a) ∧ Calls Tryz.prog 94 #[arP a, .int .i64 at_, .int .i64 n, .int .u64 x] w fun e w' => e = .returned (.int .i64 0) ∧ CoR w b S (s.wrote (s.ws.set (at_ + (2 + n)).toNat x)) w' := by
  obtain ⟨P, own, h0, rfl, rfl⟩ := hC
  obtain ⟨ab, ha, oa, ob⟩ := h0.prt 1
  refine ⟨P.a, h0.cell 13, (setField_yes _ _ _ _ ha h0.wl at_ n x n0 n1 ⟨by omega, by omega⟩).mono ?_⟩
  rintro e w1 ⟨rfl, n1⟩
  exact ⟨rfl, h0.arena oa ob n1 (by simp)⟩

/-- An object is made. -/
theorem make_co (hC : Cr w b S s) (at_ z p y : Int) (hg : goodB z p 0 y = true) (a0 : 0 ≤ at_) (hr : at_ + (z + 2) ≤ s.ws.length) :
    ∃ a : Nat, w.cell? ⟨b, 13, Option.none⟩ = some (arP a) ∧ Calls Tryz.prog 87 #[arP a, .int .i64 at_, hdV z p 0 y false false false] w fun e w' => e = .returned (.int .i64 0) ∧ CoR w b S (s.wrote (madeW s.ws at_ z (wordI z p 0 y false false false))) w' := by
  obtain ⟨P, own, h0, rfl, rfl⟩ := hC
  obtain ⟨ab, ha, oa, ob⟩ := h0.prt 1
  refine ⟨P.a, h0.cell 13, (make_yes _ _ _ _ ha h0.wl at_ z p 0 y false false false hg ⟨a0, hr⟩).mono ?_⟩
  rintro e w1 ⟨rfl, n1⟩
  have z0 : 0 ≤ z := ((goodB_iff ..).1 hg).1
  exact ⟨rfl, h0.arena oa ob n1 (by unfold madeW; rw [List.length_set, List.length_set, splice_len _ z0 ⟨a0, hr⟩])⟩

/-- Room, and words of the half that is filled. -/
theorem room_co (hC : Cr w b S s) : ∃ y : Nat, w.cell? ⟨b, 14, Option.none⟩ = some (bpP y) ∧ Calls Tryz.prog 125 #[bpP y] w fun e w' => e = .returned (.int .i64 (s.cf.nu - s.yu)) ∧ Below w.heap.size w w' := by
  obtain ⟨y, c, h⟩ := hC.half
  exact ⟨y, c, bRoom_any _ _ _ _ _ _ _ h⟩

theorem btake_co (hC : Cr w b S s) (k : Int) (h1 : 1 ≤ k) (h2 : k ≤ s.cf.nu - s.yu) :
    ∃ y : Nat, w.cell? ⟨b, 14, Option.none⟩ = some (bpP y) ∧ Calls Tryz.prog 155 #[bpP y, .int .i64 k] w fun e w' => e = .returned (.tuple #[.int .i64 (hAt s.cf.nu 1 s.yn + s.yu), .bool true]) ∧ CoR w b S (s.filled k) w' := by
  obtain ⟨P, own, h0, rfl, rfl⟩ := hC
  obtain ⟨hb, oy⟩ := h0.prt 2
  refine ⟨P.y, h0.cell 14, (bTake_yes _ _ _ _ _ _ _ k hb h1 h2).mono ?_⟩
  rintro e w1 ⟨rfl, n1, f⟩
  exact ⟨rfl, h0.young n1 f⟩

/-- The core's own cell. -/
theorem Cr.cell (hC : Cr w b S s) : ∃ P own, IsCo w P own s ∧ P.b = b ∧ (∀ i, w.cell? ⟨b, i, Option.none⟩ = (coL P s)[i]?) ∧ (∀ i, w.frozen? ⟨b, i, Option.none⟩ = false) ∧ b < w.heap.size := by
  obtain ⟨P, own, h0, rfl, rfl⟩ := hC
  exact ⟨P, own, h0, rfl, h0.cell, h0.frozen, (h0.prt 0).1.lt⟩

/-- Two cells of the core have turned: what was done. -/
theorem Cr.did (hC : Cr w b S s) (x y : Int) : CoR w b S (s.did x y) ((w.setCell ⟨b, 26, Option.none⟩ (.int .i64 x)).setCell ⟨b, 27, Option.none⟩ (.int .i64 y)) := by
  obtain ⟨P, own, h0, rfl, rfl⟩ := hC
  obtain ⟨hb, o0⟩ := h0.prt 0
  have e := (hb.set_ 26 (.int .i64 x)).set_ 27 (.int .i64 y)
  have f : Frm (fun k => k = P.b) w ((w.setCell ⟨P.b, 26, Option.none⟩ (.int .i64 x)).setCell ⟨P.b, 27, Option.none⟩ (.int .i64 y)) :=
    ((Frm.refl (fun k => k = P.b) w).setCell (p := ⟨P.b, 26, Option.none⟩) (fun _ => rfl) _).setCell (p := ⟨P.b, 27, Option.none⟩) (fun _ => rfl) _
  refine h0.turn 0 (P' := P) (O' := own 0) (f.mono ?_) ⟨?_, o0⟩ (fun k e => .inl e) (fun k e => Nat.lt_of_lt_of_le (h0.lt _ _ e) f.size) ?_ rfl rfl rfl
  · rintro k _ rfl; exact o0
  · unfold coL at e ⊢
    unfold Co.did
    simpa only [List.setIfInBounds_toArray, List.set_cons_zero, List.set_cons_succ] using e
  · intro i hi v O hp
    rcases i with _ | _ | _ | _ | _ | _ | _ | _ | _ | i <;> first | exact absurd rfl hi | exact hp

/-- The list of places where no object begins. -/
theorem Cr.wi_len (hC : Cr w b S s) : s.wi.length = (1 + 2 * s.cf.nu).toNat := by
  obtain ⟨P, own, h0, rfl, rfl⟩ := hC
  exact (h0.prt 8).2.1
def Co.flags (s : Co) (xs : List Bool) : Co := { s with wi := xs }
theorem Cr.wi_at (hC : Cr w b S s) : ∃ k : Nat, w.cell? ⟨b, 34, Option.none⟩ = some (.slice (some ⟨k, 0, Option.none⟩) s.wi.length s.wi.length) ∧ Blk w k (s.wi.map Value.bool).toArray 4 ∧
    ∀ j x, CoR w b S (s.flags (s.wi.set j x)) (w.setCell ⟨k, j, Option.none⟩ (.bool x)) := by
  obtain ⟨P, own, h0, rfl, rfl⟩ := hC
  obtain ⟨h8, l8, o8⟩ := h0.prt 8
  refine ⟨P.wb, by rw [l8]; exact h0.cell 34, h8, fun j x => ?_⟩
  have f : Frm (fun k => k = P.wb) w (w.setCell ⟨P.wb, j, Option.none⟩ (.bool x)) := (Frm.refl (fun k => k = P.wb) w).setCell (p := ⟨P.wb, j, Option.none⟩) (fun _ => rfl) _
  refine h0.turn 8 (P' := P) (O' := own 8) (f.mono ?_) ⟨h8.setBool j x, by show (s.wi.set j x).length = _; rw [List.length_set]; exact l8, o8⟩ (fun k e => .inl e) (fun k e => Nat.lt_of_lt_of_le (h0.lt _ _ e) f.size) ?_ rfl rfl rfl
  · rintro k _ rfl; exact o8
  · intro i hi v O hp
    rcases i with _ | _ | _ | _ | _ | _ | _ | _ | _ | i <;> first | exact absurd rfl hi | exact hp

/-- Bounds of the halves. -/
theorem Cr.bounds (hC : Cr w b S s) : 0 ≤ s.cf.nu ∧ s.cf.nu ≤ 1048576 ∧ 0 ≤ s.yu ∧ s.yu ≤ s.cf.nu := by
  obtain ⟨P, own, h0, rfl, rfl⟩ := hC
  have h := (h0.prt 2).1
  exact ⟨h.w0, h.w1, h.u0, h.u1⟩

/-- So far i places are told. -/
def SetI (w wr : World) (b : Nat) (S : Nat → Prop) (s : Co) (k : Int) (n i : Nat) : Prop := CoR w b S ((s.filled k).flags (wiS s.wi n i)) wr

set_option maxHeartbeats 4000000 in
/-- Room for one object, and where it begins. -/
theorem settle_co (hC : Cr w b S s) (k : Int) (h1 : 1 ≤ k) (h2 : k ≤ s.cf.nu - s.yu) :
    Calls Tryz.prog 120 #[ptr b, .int .i64 k] w fun e w' => e = .returned (.tuple #[.int .i64 (hAt s.cf.nu 1 s.yn + s.yu), .bool true]) ∧ CoR w b S (s.took k) w' := by
  obtain ⟨y, c14, ht⟩ := btake_co hC k h1 h2
  have bd := hC.bounds
  have hl := hC.wi_len
  have ha : hAt s.cf.nu 1 s.yn = 1 ∨ hAt s.cf.nu 1 s.yn = 1 + s.cf.nu := by unfold hAt; split <;> omega
  obtain ⟨n, hn⟩ : ∃ n : Nat, hAt s.cf.nu 1 s.yn + s.yu = n := ⟨(hAt s.cf.nu 1 s.yn + s.yu).toNat, by omega⟩
  obtain ⟨K, rfl⟩ : ∃ K : Nat, k = K := ⟨k.toNat, by omega⟩
  have FIN : Hid (∀ wr, SetI w wr b S s K n K → CoR w b S (s.took K) wr) := Lib.hid (fun wr h => by
    have e : s.took K = (s.filled K).flags (wiS s.wi n K) := by
      unfold Co.took Co.filled Co.flags
      rw [hn]
      rfl
    rw [e]; exact h)
  rw [hn] at ht ⊢
  have HT := Lib.hid ht
  have nl : n + K ≤ s.wi.length := by omega
  have ll : s.wi.length ≤ 4194304 := by omega
  have HLN := Lib.hid (And.intro nl ll)
  clear ht hC hl ha bd hn
  have hs : IntKind.i64.wrap ((s.wi.length : Int) - n) = (s.wi.length : Int) - n := IntWalk.i64_in _ (by omega)
  have hm : (if (s.wi.length : Int) - n < K then (s.wi.length : Int) - n else (K : Int)) = K := by rw [if_neg (by omega)]
  go_enter Tryz.func120, Tryz.ntmps120
  go_wp2_with fail
  refine HT.out.mono ?_
  rintro e w1 ⟨rfl, r1⟩
  obtain ⟨S1, c1, m1⟩ := r1
  obtain ⟨kb, c34, bk, T⟩ := c1.wi_at
  replace c34 : w1.cell? ⟨b, 34, Option.none⟩ = some (.slice (some ⟨kb, 0, Option.none⟩) s.wi.length s.wi.length) := c34
  have R1 : Hid (SetI w w1 b S s K n 0) := Lib.hid ⟨S1, c1, m1⟩
  clear c1 m1 bk T HT c14
  have hL := Lib.hid (show ∀ i, (wiS s.wi n i).length = s.wi.length from fun i => wiS_len i)
  generalize s.wi.length = L at *
  have hs : wrap64 ((L : Int) - n) = (L : Int) - n := by unfold wrap64; omega
  have kl : (K : Int) ≤ (L : Int) - n := by omega
  go_wp2_with fail
  clear c34
  go_loopw [8, 29] (fun _ s29 wr => ∃ i : Nat, i ≤ K ∧ s29 = .int .i64 i ∧ Hid (SetI w wr b S s K n i)) (fun _ s29 _ => K - (intOf s29).toNat)
  case atStart => exact ⟨0, by omega, rfl, R1⟩
  case round =>
    obtain ⟨i, hi, rfl, HI⟩ := hrel
    clear R1
    by_cases e : i < K
    · obtain ⟨S2, c2, m2⟩ := HI.out
      obtain ⟨kc, c34, bk, T⟩ := c2.wi_at
      have eL : ((s.filled K).flags (wiS s.wi n i)).wi.length = L := hL.out i
      rw [eL] at c34
      have iL : n + i < L := by omega
      have SN : Hid (SetI w (wr.setCell ⟨kc, n + i, Option.none⟩ (.bool (decide (0 < i)))) b S s K n (i + 1)) := Lib.hid (by
        obtain ⟨S3, c3, m3⟩ := T (n + i) (decide (0 < i))
        exact ⟨S3, c3, m2.trans m3⟩)
      have lt := bk.lt
      have fz := bk.frozen
      have hx : wr.cell? ⟨kc, n + i, Option.none⟩ = some (.bool (((s.filled K).flags (wiS s.wi n i)).wi[n + i]'(by rw [eL]; exact iL))) := bk.bools (List.getElem?_eq_getElem _)
      clear HI c2 bk T m2
      go_wp2
      go_roundw
      case rel => exact ⟨i + 1, by omega, by go_num, SN⟩
      case measure => simp [intOf]; omega
    · obtain rfl : i = K := by omega
      have RE := Lib.hid (FIN.out wr HI.out)
      clear HI FIN
      go_wp2
      go_ret2
      exact ⟨rfl, RE.out⟩

set_option maxHeartbeats 1000000 in
theorem take_no (hC : Cr w b S s) (k : Int) (hm : s.mv = false) (hk : s.cf.nu - s.yu < k) :
    Calls Tryz.prog 86 #[ptr b, .int .i64 k] w fun e w' => e = .returned (.tuple #[.int .i64 0, .bool false]) ∧ Below w.heap.size w w' := by
  have HC := Lib.hid hC
  obtain ⟨y, c14, hr⟩ := room_co hC
  have HR := Lib.hid hr
  have HM := Lib.hid hm
  clear hC hr hm
  generalize s.cf.nu - s.yu = r at *
  go_enter Tryz.func86, Tryz.ntmps86
  go_wp2_with fail
  refine HR.out.mono ?_
  rintro e w1 ⟨rfl, b1⟩
  obtain ⟨P, own, h0, _, hc, _⟩ := (HC.out.keep b1).cell
  have c21 : w1.cell? ⟨b, 21, Option.none⟩ = some (.bool s.mv) := hc 21
  rw [HM.out] at c21
  have B1 := Lib.hid b1
  clear h0 hc b1 HR HC c14
  go_wp2
  go_ret2
  exact ⟨rfl, B1.out⟩

set_option maxHeartbeats 1000000 in
theorem take_yes (hC : Cr w b S s) (k : Int) (hm : s.mv = false) (k1 : 1 ≤ k) (hk : k ≤ s.cf.nu - s.yu) :
    Calls Tryz.prog 86 #[ptr b, .int .i64 k] w fun e w' => e = .returned (.tuple #[.int .i64 (hAt s.cf.nu 1 s.yn + s.yu), .bool true]) ∧ CoR w b S (s.took k) w' := by
  have HC := Lib.hid hC
  obtain ⟨y, c14, hr⟩ := room_co hC
  have HR := Lib.hid hr
  have HM := Lib.hid hm
  have HK := Lib.hid hk
  have HK1 := Lib.hid k1
  clear hC hr hm
  generalize hR : s.cf.nu - s.yu = r at *
  have hR := Lib.hid hR
  go_enter Tryz.func86, Tryz.ntmps86
  go_wp2_with fail
  refine HR.out.mono ?_
  rintro e w1 ⟨rfl, b1⟩
  have K1 := HC.out.keep b1
  obtain ⟨P, own, h0, _, hc, _⟩ := K1.cell
  have c21 : w1.cell? ⟨b, 21, Option.none⟩ = some (.bool s.mv) := hc 21
  rw [HM.out] at c21
  have B1 := Lib.hid b1
  have ht := settle_co K1 k HK1.out (by rw [hR.out]; exact HK.out)
  have HT := Lib.hid ht
  clear h0 hc b1 HR HC c14 K1 ht
  go_wp2_with fail
  refine HT.out.mono ?_
  rintro e w2 ⟨rfl, r2⟩
  have R2 := Lib.hid (r2.pre B1.out)
  clear r2 HT c21
  go_wp2
  go_ret2
  exact ⟨rfl, R2.out⟩
end
end Go.Proofs.YthmhehehomieiaaGreat

/- Contracts of the core's functions where a half is emptied: head, leaving, Now, older. -/
namespace Go.Proofs.YthmhehehomieiaaGreat
open Go.RowKit

section
variable {w : World} {b : Nat} {S : Nat → Prop} {s : Co}

/-- What is old is not young. -/
theorem Cr.old_far (hC : Cr w b S s) {x : Int} (h : s.oldB x = true) : s.youngB x = false := by
  obtain ⟨P, own, h0, rfl, rfl⟩ := hC
  obtain ⟨pb, ub, hp, _⟩ := h0.prt 3
  have hb := (h0.prt 2).1
  have u1 := hb.u1
  have v1 := hb.v1
  have w0 := hb.w0
  have e : 1 + 2 * s.cf.nu ≤ x := by
    by_cases c : x < 1 + 2 * s.cf.nu
    · rw [Co.oldB, find_out hp.g0 hp.wf (.inl c)] at h; cases h
    · omega
  cases hy : s.youngB x
  · rfl
  · rw [Co.youngB, Bool.or_eq_true] at hy
    unfold inH hAt at hy
    rw [Bool.and_eq_true, Bool.and_eq_true, decide_eq_true_eq, decide_eq_true_eq, decide_eq_true_eq, decide_eq_true_eq] at hy
    exfalso
    revert hy
    split <;> split <;> omega

set_option maxHeartbeats 2000000 in
/-- An object may begin there: in the nursery. -/
theorem begins_young (hC : Cr w b S s) (x : Int) (x0 : 0 < x) (hx : s.youngB x = true) (hb : s.wi[x.toNat]? = some false) :
    Calls Tryz.prog 113 #[ptr b, .int .i64 x] w fun e w' => e = .returned (.bool true) ∧ Below w.heap.size w w' := by
  have H := young_any hC x
  rw [hx] at H
  have H := Lib.hid H
  have HC := Lib.hid hC
  have HB := Lib.hid hb
  have hl : x.toNat < s.wi.length := (List.getElem?_eq_some_iff.1 hb).1
  obtain ⟨n, rfl⟩ : ∃ n : Nat, x = n := ⟨x.toNat, by omega⟩
  have hn : n < s.wi.length := by omega
  clear hC hx hb hl
  go_enter Tryz.func113, Tryz.ntmps113
  go_wp2_with fail
  refine H.out.mono ?_
  rintro e w1 ⟨rfl, b1⟩
  obtain ⟨k, c34, bk, _⟩ := (HC.out.keep b1).wi_at
  have hc : w1.cell? ⟨k, n, Option.none⟩ = some (.bool false) := bk.bools (by have := HB.out; rwa [Int.toNat_natCast] at this)
  have B1 := Lib.hid b1
  clear b1 H HC HB bk
  go_wp2
  go_ret
  exact ⟨by simp, B1.out⟩

set_option maxHeartbeats 2000000 in
/-- An object may begin there: among what is old. -/
theorem begins_old (hC : Cr w b S s) (x : Int) (x0 : 0 < x) (x1 : x ≤ 9223372036854775807) (hx : s.oldB x = true) :
    Calls Tryz.prog 113 #[ptr b, .int .i64 x] w fun e w' => e = .returned (.bool true) ∧ Below w.heap.size w w' := by
  have H := young_any hC x
  rw [hC.old_far hx] at H
  have H := Lib.hid H
  have HO := Lib.hid (fun w1 (c : Cr w1 b S s) => (show Calls _ _ _ _ _ from by have z := old_any c x (by omega) x1; rw [hx] at z; exact z))
  have HC := Lib.hid hC
  clear hC hx
  go_enter Tryz.func113, Tryz.ntmps113
  go_wp2_with fail
  refine H.out.mono ?_
  rintro e w1 ⟨rfl, b1⟩
  have H2 := Lib.hid (HO.out w1 (HC.out.keep b1))
  have B1 := Lib.hid b1
  clear b1 H HC HO
  go_wp2_with fail
  refine H2.out.mono ?_
  rintro e w2 ⟨rfl, b2⟩
  have B2 := Lib.hid (below_trans B1.out b2)
  clear b2 B1 H2
  go_wp2
  go_ret
  exact ⟨by simp, B2.out⟩

set_option maxHeartbeats 4000000 in
/-- The head of something of the nursery, or of something old. -/
theorem head_at (hC : Cr w b S s) (x z p g y : Int) (f1 f2 f3 : Bool) (x0 : 0 < x) (x1 : x ≤ 9223372036854775807) (hx : (s.youngB x = true ∧ s.wi[x.toNat]? = some false) ∨ s.oldB x = true) (hw : s.ws[x.toNat]? = some (wordI z p g y f1 f2 f3)) (hg : goodB z p g y = true) :
    Calls Tryz.prog 75 #[ptr b, .int .i64 x] w fun e w' => e = .returned (.tuple #[hdV z p g y f1 f2 f3, .bool true]) ∧ CoR w b S s w' := by
  have k := hC.box hdO
  have HY : Hid (Calls Tryz.prog 113 #[ptr b, .int .i64 x] (w.alloc hdO) fun e w' => e = .returned (.bool true) ∧ Below (w.alloc hdO).heap.size (w.alloc hdO) w') := by
    rcases hx with ⟨h1, h2⟩ | h1
    · exact Lib.hid (begins_young k x x0 h1 h2)
    · exact Lib.hid (begins_old k x x0 x1 h1)
  have HC := Lib.hid k
  have nb := Lib.hid (hC.new (Nat.le_refl _))
  have bx := Lib.hid (Blk.new w #[.int .i64 0, .int .i64 0, .int .i64 0, .int .i64 0, .bool false, .bool false, .bool false] 93)
  have L := Lib.hid ((Below.refl _ w).alloc (Nat.le_refl _) hdO)
  have HH := Lib.hid (fun w1 (c : Cr w1 b S s) => head_co c x z p g y f1 f2 f3 x0 hw hg)
  clear hC k hw hg hx
  go_enter Tryz.func75, Tryz.ntmps75
  go_wp2_with fail
  refine HY.out.mono ?_
  rintro e w2 ⟨rfl, b2⟩
  have C2 := Lib.hid (HC.out.keep b2)
  have B2 := Lib.hid (below_trans L.out b2)
  have Z2 := Lib.hid (bx.out.keep b2)
  clear b2 HC HY bx L
  obtain ⟨a, c13, hd⟩ := HH.out _ C2.out
  have HD := Lib.hid hd
  have M2 := Lib.hid Z2.out.lt
  clear hd HH C2
  go_wp2_with fail
  refine HD.out.mono ?_
  rintro e w3 ⟨rfl, r3⟩
  have z3 := r3.blk Z2.out nb.out
  have lt := z3.lt
  have Z3 := Lib.hid z3
  have R3 := Lib.hid r3
  clear r3 z3 c13 HD Z2
  go_upto_region 4 with (fail)
  have k4 := Blk.new w3 #[.int .i64 z, .int .i64 p, .int .i64 g, .int .i64 y, .bool f1, .bool f2, .bool f3] 93
  have al := (Below.refl _ w3).alloc (Nat.le_refl _) (.cells #[.int .i64 z, .int .i64 p, .int .i64 g, .int .i64 y, .bool f1, .bool f2, .bool f3] 93)
  have j4 := Z3.out.keep al
  have R4 := Lib.hid (R3.out.post al)
  generalize w3.alloc (.cells #[.int .i64 z, .int .i64 p, .int .i64 g, .int .i64 y, .bool f1, .bool f2, .bool f3] 93) = w4 at *
  generalize w3.heap.size = h3 at *
  clear al R3 Z3
  obtain ⟨d0, d1, d2, d3, d4, d5, d6, df⟩ := j4.seven
  obtain ⟨c0, c1, c2, c3, c4, c5, c6, cf⟩ := k4.seven
  have J4 := Lib.hid j4
  have l4 := k4.lt
  have m4 := j4.lt
  clear j4 k4
  go_wp2
  clear d0 d1 d2 d3 d4 d5 d6 df c0 c1 c2 c3 c4 c5 c6 cf
  have k5 := J4.out.set7 (.int .i64 z) (.int .i64 p) (.int .i64 g) (.int .i64 y) (.bool f1) (.bool f2) (.bool f3)
  have RE : CoR w b S s _ := R4.out.own B2.out ((Frm.refl (fun k => k = w.heap.size) w4).set7 _ rfl (.int .i64 z) (.int .i64 p) (.int .i64 g) (.int .i64 y) (.bool f1) (.bool f2) (.bool f3)) fun k e => by subst e; exact ⟨Nat.le_refl _, M2.out, nb.out⟩
  generalize (((((((w4.setCell ⟨w.heap.size, 0, none⟩ (.int .i64 z)).setCell ⟨w.heap.size, 1, none⟩ (.int .i64 p)).setCell ⟨w.heap.size, 2, none⟩ (.int .i64 g)).setCell ⟨w.heap.size, 3, none⟩ (.int .i64 y)).setCell ⟨w.heap.size, 4, none⟩ (.bool f1)).setCell ⟨w.heap.size, 5, none⟩ (.bool f2)).setCell ⟨w.heap.size, 6, none⟩ (.bool f3)) = W at *
  obtain ⟨d0, d1, d2, d3, d4, d5, d6, df⟩ := k5.seven
  exact bodyPost_ret (v := .tuple #[hdV z p g y f1 f2 f3, .bool true]) (by simp [results, Tryz.results75, go_sem, d0, d1, d2, d3, d4, d5, d6]) rfl ⟨rfl, RE⟩

/-- A way is read. -/
theorem way_co (hC : Cr w b S s) (x v : Int) (x0 : 0 < x) (v0 : 0 ≤ v) (v1 : v ≤ 1048576) (hx : s.ws[x.toNat + 1]? = some v) :
    ∃ a : Nat, w.cell? ⟨b, 13, Option.none⟩ = some (arP a) ∧ Calls Tryz.prog 118 #[arP a, .int .i64 x] w fun e w' => e = .returned (.tuple #[.int .i64 v, .int .i64 0]) ∧ CoR w b S s w' := by
  obtain ⟨P, own, h0, rfl, rfl⟩ := hC
  obtain ⟨ab, ha, oa, ob⟩ := h0.prt 1
  have hl := (List.getElem?_eq_some_iff.1 hx).1
  have e : (x + 1).toNat = x.toNat + 1 := by omega
  refine ⟨P.a, h0.cell 13, (way_yes _ _ _ _ ha h0.wl x v ⟨by omega, by omega⟩ (by rw [e]; exact hx)).mono ?_⟩
  rintro e w1 ⟨rfl, n1⟩
  have ev : wrap64 v = v := by unfold wrap64; omega
  rw [ev]
  exact ⟨rfl, h0.arena oa ob n1 rfl⟩

theorem Co.young_left {s : Co} {x : Int} (h : inH (hAt s.cf.nu 1 (!s.yn)) s.yv x = true) : s.youngB x = true := by unfold Co.youngB; rw [h, Bool.or_true]

set_option maxHeartbeats 4000000 in
/-- Of an object of the half that is emptied: its head, and where it is now. -/
theorem leaving_yes (hC : Cr w b S s) (x z p g y v : Int) (f1 f2 f3 : Bool) (x0 : 0 < x) (x1 : x ≤ 9223372036854775807) (hx : inH (hAt s.cf.nu 1 (!s.yn)) s.yv x = true) (hw : s.ws[x.toNat]? = some (wordI z p g y f1 f2 f3)) (hg : goodB z p g y = true)
    (v0 : 0 ≤ v) (v1 : v ≤ 1048576) (hv : s.ws[x.toNat + 1]? = some v) (hb : s.wi[x.toNat]? = some false) :
    Calls Tryz.prog 80 #[ptr b, .int .i64 x] w fun e w' => e = .returned (.tuple #[hdV z p g y f1 f2 f3, .int .i64 v, .bool true]) ∧ CoR w b S s w' := by
  have K0 := Lib.hid (hC.way.box hdO)
  obtain ⟨y0, c14, hy⟩ := (hC.box hdO).half
  have H := bFrom_any y0 _ _ _ _ _ _ x hy
  rw [hx] at H
  have H := Lib.hid H
  have bx := Lib.hid (Blk.new w #[.int .i64 0, .int .i64 0, .int .i64 0, .int .i64 0, .bool false, .bool false, .bool false] 93)
  have HH := Lib.hid (fun w1 S (c : Cr w1 b S s) => head_at c x z p g y f1 f2 f3 x0 x1 (.inl ⟨Co.young_left hx, hb⟩) hw hg)
  have HV := Lib.hid (fun w1 S (c : Cr w1 b S s) => way_co c x v x0 v0 v1 hv)
  clear hC hy hx hw hg hv hb
  go_enter Tryz.func80, Tryz.ntmps80
  go_wp2_with fail
  refine H.out.mono ?_
  rintro e w1 ⟨rfl, b1⟩
  have K1 := Lib.hid (K0.out.keep b1)
  have Z1 := Lib.hid (bx.out.keep b1)
  clear b1 H bx K0 c14
  go_wp2_with fail
  refine (K1.out.call fun S c => HH.out _ S c).mono ?_
  rintro e w2 ⟨rfl, k2, p2⟩
  have z2 := Z1.out.kp p2 (.inr rfl)
  have lt := z2.lt
  have Z2 := Lib.hid z2
  have K2 := Lib.hid k2
  obtain ⟨d0, d1, d2, d3, d4, d5, d6, df⟩ := z2.seven
  clear k2 p2 z2 K1 Z1 HH
  go_upto_region 6 with (fail)
  clear d0 d1 d2 d3 d4 d5 d6 df
  have k3 := Z2.out.set7 (.int .i64 z) (.int .i64 p) (.int .i64 g) (.int .i64 y) (.bool f1) (.bool f2) (.bool f3)
  have K3 := Lib.hid (K2.out.write ((Frm.refl (fun k => k = w.heap.size) w2).set7 _ rfl (.int .i64 z) (.int .i64 p) (.int .i64 g) (.int .i64 y) (.bool f1) (.bool f2) (.bool f3)) fun k e => .inr e)
  generalize (((((((w2.setCell ⟨w.heap.size, 0, none⟩ (.int .i64 z)).setCell ⟨w.heap.size, 1, none⟩ (.int .i64 p)).setCell ⟨w.heap.size, 2, none⟩ (.int .i64 g)).setCell ⟨w.heap.size, 3, none⟩ (.int .i64 y)).setCell ⟨w.heap.size, 4, none⟩ (.bool f1)).setCell ⟨w.heap.size, 5, none⟩ (.bool f2)).setCell ⟨w.heap.size, 6, none⟩ (.bool f3)) = w3 at *
  have Z3 := Lib.hid k3
  obtain ⟨S3, c3, m3, n3⟩ := K3.out.is
  obtain ⟨a, c13, hd⟩ := HV.out _ S3 c3
  have HD := Lib.hid hd
  have M3 := Lib.hid m3
  have N3 := Lib.hid n3
  clear k3 c3 m3 n3 hd HV K2 Z2 lt
  go_wp2_with fail
  refine HD.out.mono ?_
  rintro e w4 ⟨rfl, r4⟩
  obtain ⟨k4, p4⟩ := K3.out.after M3.out N3.out r4
  have z4 := Z3.out.kp p4 (.inr rfl)
  have K4 := Lib.hid k4
  have Z4 := Lib.hid z4
  obtain ⟨d0, d1, d2, d3, d4, d5, d6, df⟩ := z4.seven
  clear r4 k4 p4 z4 K3 Z3 HD M3 N3 c13
  go_wp2
  clear d0 d1 d2 d3 d4 d5 d6 df
  have k5 := Z4.out.set7 (.int .i64 z) (.int .i64 p) (.int .i64 g) (.int .i64 y) (.bool f1) (.bool f2) (.bool f3)
  have RE : CoR w b S s _ := (K4.out.write ((Frm.refl (fun k => k = w.heap.size) w4).set7 _ rfl (.int .i64 z) (.int .i64 p) (.int .i64 g) (.int .i64 y) (.bool f1) (.bool f2) (.bool f3)) fun k e => .inr e).done
  generalize (((((((w4.setCell ⟨w.heap.size, 0, none⟩ (.int .i64 z)).setCell ⟨w.heap.size, 1, none⟩ (.int .i64 p)).setCell ⟨w.heap.size, 2, none⟩ (.int .i64 g)).setCell ⟨w.heap.size, 3, none⟩ (.int .i64 y)).setCell ⟨w.heap.size, 4, none⟩ (.bool f1)).setCell ⟨w.heap.size, 5, none⟩ (.bool f2)).setCell ⟨w.heap.size, 6, none⟩ (.bool f3)) = W at *
  obtain ⟨d0, d1, d2, d3, d4, d5, d6, df⟩ := k5.seven
  exact bodyPost_ret (v := .tuple #[hdV z p g y f1 f2 f3, .int .i64 v, .bool true]) (by simp [results, Tryz.results80, go_sem, d0, d1, d2, d3, d4, d5, d6]) rfl ⟨rfl, RE⟩

end
end Go.Proofs.YthmhehehomieiaaGreat

/- Contracts of the core's functions where a half is emptied: Now, older, next. -/
namespace Go.Proofs.YthmhehehomieiaaGreat
open Go.RowKit

section
variable {w : World} {b : Nat} {S : Nat → Prop} {s : Co}

set_option maxHeartbeats 2000000 in
/-- Where an object of the half that is emptied is now. -/
theorem now_yes (hC : Cr w b S s) (x z p g y v : Int) (f1 f2 f3 : Bool) (x0 : 0 < x) (x1 : x ≤ 9223372036854775807) (hx : inH (hAt s.cf.nu 1 (!s.yn)) s.yv x = true) (hw : s.ws[x.toNat]? = some (wordI z p g y f1 f2 f3)) (hg : goodB z p g y = true)
    (v0 : 0 ≤ v) (v1 : v ≤ 1048576) (hv : s.ws[x.toNat + 1]? = some v) (hb : s.wi[x.toNat]? = some false) :
    Calls Tryz.prog 31 #[ptr b, .int .i64 x] w fun e w' => e = .returned (.int .i64 v) ∧ CoR w b S s w' := by
  have H := Lib.hid (leaving_yes hC x z p g y v f1 f2 f3 x0 x1 hx hw hg v0 v1 hv hb)
  clear hC hx hw hg hv hb
  go_enter Tryz.func31, Tryz.ntmps31
  go_wp2_with fail
  refine H.out.mono ?_
  rintro e w1 ⟨rfl, r1⟩
  have R1 := Lib.hid (r1.post ((Below.refl _ w1).alloc (Nat.le_refl _) (.cells #[.int .i64 z, .int .i64 p, .int .i64 g, .int .i64 y, .bool f1, .bool f2, .bool f3] 93)))
  clear r1 H
  go_wp2
  go_ret
  exact ⟨rfl, R1.out⟩

def Co.oldTook (s : Co) (pgs : List Pg) : Co := { s with pgs := pgs }

/-- Room among what is old. -/
theorem otake_co (hC : Cr w b S s) (n : Int) (n1 : n ≤ 9223372036854775807) :
    ∃ o : Nat, w.cell? ⟨b, 15, Option.none⟩ = some (spP o) ∧ Calls Tryz.prog 119 #[spP o, .int .i64 n] w fun e w' => ∃ u pgs', e = .returned u ∧ TakeA (1 + 2 * s.cf.nu) s.cf.pz s.ps s.pgs n u pgs' ∧ CoR w b S (s.oldTook pgs') w' := by
  obtain ⟨P, own, h0, rfl, rfl⟩ := hC
  obtain ⟨pb, ub, hp, ho⟩ := h0.prt 3
  refine ⟨P.o, h0.cell 15, (mTake_any _ pb ub _ _ _ _ n _ hp n1).mono ?_⟩
  rintro e w' ⟨u, pgs', ub', he, ht, hi, hf, hs⟩
  refine ⟨u, pgs', he, ht, h0.turn 3 (P' := P) (O' := SpS P.o pb ub' pgs') (hf.mono fun k _ hk => ho k hk) ⟨pb, ub', hi, fun k hk => hk⟩ (fun k hk => (hs k hk).imp (ho k) id) (fun k hk => hi.lt k hk) ?_ rfl rfl rfl⟩
  intro i hi v O hp
  rcases i with _ | _ | _ | _ | _ | _ | _ | _ | _ | i <;> first | exact absurd rfl hi | exact hp

theorem took_cases {F G : Int} {ps : List Bool} {pgs pgs' : List Pg} {n : Int} {u : Value} (h : TakeA F G ps pgs n u pgs') : (u = noT ∧ pgs' = pgs) ∨ ∃ x, u = yesV x := by
  rcases h with ⟨_, rfl, rfl⟩ | ⟨_, _, h | h⟩ | ⟨_, _, h | ⟨_, h | h⟩⟩
  · exact .inl ⟨rfl, rfl⟩
  · obtain ⟨_, _, _, _, rfl, _⟩ := h; exact .inr ⟨_, rfl⟩
  · exact .inl h.2
  · obtain ⟨_, _, _, _, _, _, _, _, rfl, _⟩ := h; exact .inr ⟨_, rfl⟩
  · obtain ⟨_, _, _, rfl, _⟩ := h; exact .inr ⟨_, rfl⟩
  · exact .inl h.2

theorem Cr.wf (hC : Cr w b S s) : WF s.cf.pz s.pgs ∧ 1 ≤ s.cf.pz ∧ s.pgs.length ≤ 64 := by
  obtain ⟨P, own, h0, rfl, rfl⟩ := hC
  obtain ⟨pb, ub, hp, _⟩ := h0.prt 3
  exact ⟨hp.wf, hp.g0, by rw [hp.len]; exact hp.p1⟩

set_option maxHeartbeats 2000000 in
/-- What is older by a cycle: while a major cycle marks -/
theorem older_yes (hC : Cr w b S s) (z p g y : Int) (f1 f2 f3 : Bool) (g0 : 0 ≤ g) (g1 : g ≤ 7) (hp : s.ph = 1) :
    Calls Tryz.prog 81 #[ptr b, hdV z p g y f1 f2 f3] w fun e w' => e = .returned (hdV z p (if g + 1 ≤ 7 then g + 1 else 7) y f1 f2 f3) ∧ Below w.heap.size w w' := by
  obtain ⟨P, own, h0, _, hc, _, hl⟩ := hC.cell
  have c19 : w.cell? ⟨b, 19, Option.none⟩ = some (.int .i64 s.par) := hc 19
  have c20 : w.cell? ⟨b, 20, Option.none⟩ = some (.int .i64 s.ph) := hc 20
  clear h0 hc hC
  rcases (show g + 1 ≤ 7 ∨ ¬ g + 1 ≤ 7 by omega) with h | h
  · rw [if_pos h]
    go_enter Tryz.func81, Tryz.ntmps81
    go_wp2
    exact bodyPost_ret (v := hdV z p (g + 1) y f1 f2 f3) (by simp [results, Tryz.results81, go_sem]) rfl ⟨rfl, ((Below.refl _ _).alloc (Nat.le_refl _) _).alloc (by simp) _⟩
  · rw [if_neg h]
    go_enter Tryz.func81, Tryz.ntmps81
    go_wp2
    exact bodyPost_ret (v := hdV z p 7 y f1 f2 f3) (by simp [results, Tryz.results81, go_sem]) rfl ⟨rfl, ((Below.refl _ _).alloc (Nat.le_refl _) _).alloc (by simp) _⟩

set_option maxHeartbeats 2000000 in
/-- What is older by a cycle: while nothing is marked -/
theorem older_no (hC : Cr w b S s) (z p g y : Int) (f1 f2 f3 : Bool) (g0 : 0 ≤ g) (g1 : g ≤ 7) (hp : s.ph ≠ 1) :
    Calls Tryz.prog 81 #[ptr b, hdV z p g y f1 f2 f3] w fun e w' => e = .returned (hdV z p (if g + 1 ≤ 7 then g + 1 else 7) s.par false f2 f3) ∧ Below w.heap.size w w' := by
  obtain ⟨P, own, h0, _, hc, _, hl⟩ := hC.cell
  have c19 : w.cell? ⟨b, 19, Option.none⟩ = some (.int .i64 s.par) := hc 19
  have c20 : w.cell? ⟨b, 20, Option.none⟩ = some (.int .i64 s.ph) := hc 20
  clear h0 hc hC
  rcases (show g + 1 ≤ 7 ∨ ¬ g + 1 ≤ 7 by omega) with h | h
  · rw [if_pos h]
    go_enter Tryz.func81, Tryz.ntmps81
    go_wp2
    exact bodyPost_ret (v := hdV z p (g + 1) s.par false f2 f3) (by simp [results, Tryz.results81, go_sem]) rfl ⟨rfl, ((Below.refl _ _).alloc (Nat.le_refl _) _).alloc (by simp) _⟩
  · rw [if_neg h]
    go_enter Tryz.func81, Tryz.ntmps81
    go_wp2
    exact bodyPost_ret (v := hdV z p 7 s.par false f2 f3) (by simp [results, Tryz.results81, go_sem]) rfl ⟨rfl, ((Below.refl _ _).alloc (Nat.le_refl _) _).alloc (by simp) _⟩

set_option maxHeartbeats 2000000 in
/-- Room for something that leaves: among what is old, if it is old enough, and there is some; else in the half that is filled. -/
theorem next_any (hC : Cr w b S s) (g k : Int) (k1 : 1 ≤ k) (k2 : k ≤ s.cf.nu - s.yu) (k3 : k ≤ 1048576) :
    Calls Tryz.prog 83 #[ptr b, .int .i64 g, .int .i64 k] w fun e w' =>
      (∃ q pgs', s.cf.tn ≤ g ∧ TakeA (1 + 2 * s.cf.nu) s.cf.pz s.ps s.pgs k (yesV q) pgs' ∧ e = .returned (.tuple #[.int .i64 q, .bool true, .bool true]) ∧ CoR w b S (s.oldTook pgs') w') ∨
      ((g < s.cf.tn ∨ TakeA (1 + 2 * s.cf.nu) s.cf.pz s.ps s.pgs k noT s.pgs) ∧ e = .returned (.tuple #[.int .i64 (hAt s.cf.nu 1 s.yn + s.yu), .bool false, .bool true]) ∧ CoR w b S (s.took k) w') := by
  have HB := Lib.hid (fun w1 S (c : Cr w1 b S s) => settle_co c k k1 k2)
  have K2 := Lib.hid k2
  obtain ⟨P, own, h0, _, hc, _, hl⟩ := hC.cell
  have c7 : w.cell? ⟨b, 7, Option.none⟩ = some (.int .i64 s.cf.tn) := hc 7
  have hy := HB.out _ _ hC
  obtain ⟨o0, c15, ho⟩ := otake_co hC k (by omega)
  have HY := Lib.hid hy
  have HO := Lib.hid ho
  have HC := Lib.hid hC
  clear h0 hc hC hy ho k2
  rcases (show g < s.cf.tn ∨ s.cf.tn ≤ g by omega) with h | h
  · clear HO c15
    go_enter Tryz.func83, Tryz.ntmps83
    go_wp2_with fail
    refine HY.out.mono ?_
    rintro e w1 ⟨rfl, r1⟩
    have R1 := Lib.hid r1
    clear r1 HY c7
    go_wp2
    go_ret3
    exact .inr ⟨.inl h, rfl, R1.out⟩
  · clear HY
    go_enter Tryz.func83, Tryz.ntmps83
    go_wp2_with fail
    refine HO.out.mono ?_
    rintro e w1 ⟨u, pgs', rfl, ht, r1⟩
    rcases took_cases ht with ⟨rfl, rfl⟩ | ⟨q, rfl⟩
    · have HT := Lib.hid ht
      have r1 : CoR w b S s w1 := r1
      obtain ⟨S1, c1, m1⟩ := r1
      have hy := HB.out _ _ c1
      have HY := Lib.hid hy
      have M1 := Lib.hid m1
      clear c1 m1 hy ht HO c15 c7 HB
      unfold noT
      go_wp2_with fail
      refine HY.out.mono ?_
      rintro e w2 ⟨rfl, r2⟩
      obtain ⟨S2, c2, m2⟩ := r2
      have R2 : Hid (CoR w b S (s.took k) w2) := Lib.hid ⟨S2, c2, M1.out.trans m2⟩
      clear c2 m2 HY
      go_wp2
      go_ret3
      exact .inr ⟨.inr HT.out, rfl, R2.out⟩
    · have HT := Lib.hid ht
      have R1 := Lib.hid r1
      clear r1 ht HO c15 c7
      unfold yesV
      go_wp2
      go_ret3
      exact .inl ⟨q, pgs', h, HT.out, rfl, R1.out⟩
end
end Go.Proofs.YthmhehehomieiaaGreat

/- The core's own cells turn: what was copied, what was promoted, the row. -/
namespace Go.Proofs.YthmhehehomieiaaGreat
open Go.RowKit

def Co.copied (s : Co) (x : Int) : Co := { s with cop := x }
def Co.prom (s : Co) (x : Int) : Co := { s with d := { s.d with pr := x } }
def Co.rowed (s : Co) (xs : List Int) : Co := { s with row := xs }
def Co.scanned (s : Co) (x : Int) : Co := { s with scan := x }
def Co.moving (s : Co) (m : Bool) : Co := { s with mv := m }
def Co.minors (s : Co) (x : Int) : Co := { s with d := { s.d with mi := x } }

section
variable {w w' : World} {P P' : Pos} {own : Nat → Nat → Prop} {s s' : Co} {b : Nat} {S : Nat → Prop}

/-- One cell of the core has turned. -/
theorem Cr.one (hC : Cr w b S s) (i : Nat) (v : Value) (hc : ∀ P, (coL P s).set! i v = coL P s') (same : ∀ P j, j ≠ 0 → ∀ v O, Prt P s v O j → Prt P s' v O j) (hcf : s'.cf = s.cf) (hwl : s'.ws.length = s.ws.length) (hpt : s'.pt = s.pt := by rfl) : CoR w b S s' (w.setCell ⟨b, i, none⟩ v) := by
  obtain ⟨P, own, h0, rfl, rfl⟩ := hC
  obtain ⟨hb, o0⟩ := h0.prt 0
  have e := hb.set_ i v
  have f : Frm (fun k => k = P.b) w (w.setCell ⟨P.b, i, none⟩ v) := (Frm.refl (fun k => k = P.b) w).setCell (p := ⟨P.b, i, none⟩) (fun _ => rfl) _
  refine h0.turn 0 (P' := P) (O' := own 0) (f.mono ?_) ⟨?_, o0⟩ (fun k e => .inl e) (fun k e => Nat.lt_of_lt_of_le (h0.lt _ _ e) f.size) (fun j hj => same P j hj) rfl hcf hwl hpt
  · rintro k _ rfl; exact o0
  · rw [← hc P]; exact e

theorem Cr.setCop (hC : Cr w b S s) (x : Int) : CoR w b S (s.copied x) (w.setCell ⟨b, 23, none⟩ (.int .i64 x)) :=
  hC.one 23 _ (fun P => by unfold coL; simp [Co.copied]) (fun P j hj v O hp => by
    rcases j with _ | _ | _ | _ | _ | _ | _ | _ | _ | j <;> first | exact absurd rfl hj | exact hp) rfl rfl
theorem Cr.setPr (hC : Cr w b S s) (x : Int) : CoR w b S (s.prom x) (w.setCell ⟨b, 28, none⟩ (.int .i64 x)) :=
  hC.one 28 _ (fun P => by unfold coL; simp [Co.prom]) (fun P j hj v O hp => by
    rcases j with _ | _ | _ | _ | _ | _ | _ | _ | _ | j <;> first | exact absurd rfl hj | exact hp) rfl rfl
theorem Cr.setScan (hC : Cr w b S s) (x : Int) : CoR w b S (s.scanned x) (w.setCell ⟨b, 22, none⟩ (.int .i64 x)) :=
  hC.one 22 _ (fun P => by unfold coL; simp [Co.scanned]) (fun P j hj v O hp => by
    rcases j with _ | _ | _ | _ | _ | _ | _ | _ | _ | j <;> first | exact absurd rfl hj | exact hp) rfl rfl
theorem Cr.setMv (hC : Cr w b S s) (x : Bool) : CoR w b S (s.moving x) (w.setCell ⟨b, 21, none⟩ (.bool x)) :=
  hC.one 21 _ (fun P => by unfold coL; simp [Co.moving]) (fun P j hj v O hp => by
    rcases j with _ | _ | _ | _ | _ | _ | _ | _ | _ | j <;> first | exact absurd rfl hj | exact hp) rfl rfl
theorem Cr.setMinors (hC : Cr w b S s) (x : Int) : CoR w b S (s.minors x) (w.setCell ⟨b, 29, none⟩ (.int .i64 x)) :=
  hC.one 29 _ (fun P => by unfold coL; simp [Co.minors]) (fun P j hj v O hp => by
    rcases j with _ | _ | _ | _ | _ | _ | _ | _ | _ | j <;> first | exact absurd rfl hj | exact hp) rfl rfl

/-- The row has turned, and the core's cell that tells it. -/
theorem IsCo.rowT (h : IsCo w P own s) {A' : Option Addr} {c' : Nat} {xs : List Int} {w1 : World} (g : Grw P.rA A' w w1) (q : Qu w1 A' xs.length c' xs) :
    CoR w P.b (fun k => ∃ j, own j k) (s.rowed xs) (w1.setCell ⟨P.b, 25, none⟩ (.slice A' xs.length c')) := by
  obtain ⟨hb, o0⟩ := h.prt 0
  obtain ⟨hq, o7⟩ := h.prt 7
  have fg : Frm (fun k => own 0 k ∨ own 7 k) w w1 := g.frm.mono fun k _ hk => .inr (o7 k hk)
  have f : Frm (fun k => own 0 k ∨ own 7 k) w (w1.setCell ⟨P.b, 25, none⟩ (.slice A' xs.length c')) := fg.setCell (p := ⟨P.b, 25, none⟩) (fun _ => .inl o0) _
  have sz : w.heap.size ≤ w1.heap.size := g.frm.size
  have bn : ∀ k, blkOf A' = some k → k ≠ P.b := fun k hk e => by
    subst e
    rcases g.at_ _ hk with z | z
    · have := h.ap 0 7 _ o0 (o7 _ z); omega
    · have := h.lt 0 _ o0; omega
  have hb1 : Blk w1 P.b (coL P s) 42 := hb.frm g.frm fun e => by have := h.ap 0 7 _ o0 (o7 _ e); omega
  have lt1 : ∀ k, blkOf A' = some k → k < w1.heap.size := fun k hk => by
    rcases q.lies with ⟨rfl, _⟩ | ⟨g', off, cs, rfl, hB, _⟩
    · cases hk
    · cases hk; exact hB.lt
  have sp : ∀ i k, (if i = 7 then blkOf A' = some k else own i k) → own i k ∨ (i = 7 ∧ w.heap.size ≤ k) := fun i k hk => by
    by_cases e : i = 7
    · subst e; rw [if_pos rfl] at hk; exact (g.at_ k hk).imp (o7 k) fun h => ⟨rfl, h⟩
    · rw [if_neg e] at hk; exact .inl hk
  refine ⟨_, ⟨{ P with rA := A', rc := c' }, fun i k => if i = 7 then blkOf A' = some k else own i k, ⟨fun i => ?_, fun i k hk => ?_, fun i i' k hk hk' => ?_, h.may, h.wl, h.pts⟩, rfl, rfl⟩, f.mono fun k _ hk => ?_, fun k hk => ?_⟩
  · by_cases e0 : i = 0
    · subst e0
      have e := hb1.set_ 25 (.slice A' xs.length c')
      refine ⟨?_, ?_⟩
      · unfold coL at e ⊢
        unfold Co.rowed
        simpa only [List.setIfInBounds_toArray, List.set_cons_zero, List.set_cons_succ] using e
      · show (if 0 = 7 then blkOf A' = some P.b else own 0 P.b)
        rw [if_neg (by decide)]; exact o0
    · by_cases e7 : i = 7
      · subst e7
        refine ⟨q.frm (S := fun k => k = P.b) (Frm.setCell (S := fun k => k = P.b) (Frm.refl _ _) (p := ⟨P.b, 25, none⟩) (fun _ => rfl) _) fun k hk => bn k hk, fun k hk => ?_⟩
        show (if 7 = 7 then blkOf A' = some k else own 7 k)
        rw [if_pos rfl]; exact hk
      · have := (h.prt i).frm f fun k hk hk' => by
          rcases hk' with z | z
          · exact e0 (h.ap _ _ k hk z)
          · exact e7 (h.ap _ _ k hk z)
        have e : (fun k => if i = 7 then blkOf A' = some k else own i k) = own i := by funext k; rw [if_neg e7]
        rw [e]
        rcases i with _ | _ | _ | _ | _ | _ | _ | _ | _ | i <;> first | exact absurd rfl e0 | exact absurd rfl e7 | exact this
  · by_cases e : i = 7
    · subst e; rw [if_pos rfl] at hk
      exact Nat.lt_of_lt_of_le (lt1 k hk) (by simp [World.setCell])
    · rw [if_neg e] at hk; exact Nat.lt_of_lt_of_le (h.lt i k hk) f.size
  · rcases sp i k hk with h1 | ⟨e1, h1⟩
    · rcases sp i' k hk' with h2 | ⟨e2, h2⟩
      · exact h.ap _ _ k h1 h2
      · have := h.lt _ _ h1; omega
    · rcases sp i' k hk' with h2 | ⟨e2, h2⟩
      · have := h.lt _ _ h2; omega
      · omega
  · rcases hk with z | z
    · exact ⟨0, z⟩
    · exact ⟨7, z⟩
  · obtain ⟨i, hk⟩ := hk
    exact (sp i k hk).imp (fun h => ⟨i, h⟩) fun h => h.2

/-- The row, and the cell that tells it. -/
theorem Cr.row (hC : Cr w b S s) : ∃ A c L, Blk w b L 42 ∧ L[25]? = some (.slice A s.row.length c) ∧ w.cell? ⟨b, 25, none⟩ = some (.slice A s.row.length c) ∧ Qu w A s.row.length c s.row ∧ (∀ k, blkOf A = some k → k ≠ b) ∧
    ∀ A' c' xs w1, Grw A A' w w1 → Qu w1 A' xs.length c' xs → CoR w b S (s.rowed xs) (w1.setCell ⟨b, 25, none⟩ (.slice A' xs.length c')) := by
  obtain ⟨P, own, h0, rfl, rfl⟩ := hC
  obtain ⟨hq, o7⟩ := h0.prt 7
  exact ⟨P.rA, P.rc, coL P s, (h0.prt 0).1, rfl, h0.cell 25, hq, fun k hk e => by have := h0.ap 0 7 k (e ▸ (h0.prt 0).2) (o7 k hk); omega, fun A' c' xs w1 g q => h0.rowT g q⟩
end
end Go.Proofs.YthmhehehomieiaaGreat
