/- Texts of the layers below, joined: GrB IntsQ GrC TbA TbB ConfA ConfB ConfC CoA CoB CoC CoE CoF CoG CoH MdQ CoN CoS RgA CoD CoQ RgN CoT CoV. -/
import Derived.Test.YthmhehehomieiaaGreatJoinB
import Derived.Deep.QuietTactic
import Derived.BigQuiet
import Derived.BigRegion
import Derived.IntWalk
import Derived.StillTailTactics
import Derived.Deep.RegionHeld3
import Derived.StillTail
import Derived.Deep.Quiet
import Derived.Laws.AppendOwn
import Derived.Maps.AppendAt
import Derived.Deep.AppendLies

/- Contracts of the program's stack: All, Put; of none, too. -/
namespace Go.Proofs.YthmhehehomieiaaGreat
open Go.RowKit

section
variable (b : Nat) (M : Int) (l : Bool) (A : Option Addr) (n c : Nat) (xs : List Int) (x : Int) (w : World)

set_option maxHeartbeats 1000000 in
theorem grAll_any (h : IsGr w b M l A n c xs) :
    Calls Tryz.prog 135 #[grP b] w fun e w' => ∃ A' c', e = .returned (.slice A' n c') ∧ Qu w' A' n c' xs ∧ Below w.heap.size w w' ∧ ∀ k, blkOf A' = some k → w.heap.size ≤ k := by
  obtain ⟨c0, c1, c2, cf⟩ := h.three
  have H := Lib.hid (clone_qu A n c xs w h.row (by have := h.m1; have := h.few; omega))
  clear h c1 c2 cf
  go_enter Tryz.func135, Tryz.ntmps135
  go_wp2_with fail
  refine H.out.mono ?_
  rintro e w1 ⟨A', c', rfl, b1⟩
  have B := Lib.hid b1
  clear b1
  go_wp2
  go_ret
  exact ⟨A', c', rfl, B.out⟩

set_option maxHeartbeats 1000000 in
theorem grAll_nil : Calls Tryz.prog 135 #[.pointer none] w fun e w' => e = .returned (.slice none 0 0) ∧ w = w' := by
  go_enter Tryz.func135, Tryz.ntmps135
  go_wp2
  go_ret
  exact ⟨rfl, rfl⟩

set_option maxHeartbeats 1000000 in
theorem grPut_nil (L : Option Addr) (m d : Nat) : Calls Tryz.prog 136 #[.pointer none, .slice L m d] w fun e w' => e = .returned (.tuple #[]) ∧ w = w' := by
  go_enter Tryz.func136, Tryz.ntmps136
  go_wp2
  first | go_end0 | refine bodyPost_ret (results_none rfl _ _ _) rfl ?_
  exact ⟨rfl, rfl⟩
end

/-- What stands there when the first i of ys have been pushed. -/
def PutR (w : World) (b : Nat) (M : Int) (l : Bool) (A : Option Addr) (ys : List Int) (i : Nat) (w' : World) : Prop :=
  ∃ A' n' c', IsGr w' b M (l || decide (M < (i : Int))) A' n' c' (ys.take (min i M.toNat)) ∧ GrT b A A' w w'

set_option maxHeartbeats 4000000 in
theorem grPut_any (b : Nat) (M : Int) (l : Bool) (A : Option Addr) (n c : Nat) (xs ys : List Int) (L : Option Addr) (m d : Nat) (w : World) (h : IsGr w b M l A n c xs) (rd : Rd .i64 w L m ys) (hm : m ≤ maxLen)
    (far : 0 < m → ∀ ad, L = some ad → ad.block ≠ b ∧ blkOf A ≠ some ad.block) :
    Calls Tryz.prog 136 #[grP b, .slice L m d] w fun e w' => e = .returned (.tuple #[]) ∧ ∃ A' n' c', IsGr w' b M (l || decide (M < (m : Int))) A' n' c' (ys.take M.toNat) ∧ GrT b A A' w w' := by
  obtain ⟨c0, c1, c2, cf⟩ := h.three
  have m0 := h.m0
  have m1 := h.m1
  have hlt := h.lt
  have cm := h.row.max
  have hA := h.row.lies
  unfold maxLen at cm
  have mm : m ≤ 9223372036854775807 := by simp only [maxLen] at hm; omega
  have HS := Lib.hid (show PutR w b M l A ys 0 (w.setCell ⟨b, 0, none⟩ (.slice A 0 c)) from ⟨A, 0, c, by
    have e : decide (M < ((0 : Nat) : Int)) = false := decide_eq_false (by omega)
    rw [e, Bool.or_false]
    simpa using h.set h.row.none_ (by omega), GrT.set 0 _⟩)
  have RD := Lib.hid rd
  have FA := Lib.hid far
  have HL := Lib.hid rd.1
  clear h rd far hm
  rcases hA with ⟨rfl, rfl⟩ | ⟨g, off, cs, rfl, _, _, _⟩
  all_goals
    go_enter Tryz.func136, Tryz.ntmps136
    go_wp2_with fail
    go_loopw [18] (fun s wr => ∃ i : Nat, i ≤ m ∧ s = .int .i64 i ∧ Hid (PutR w b M l _ ys i wr)) (fun s _ => m - (intOf s).toNat)
    case atStart => exact ⟨0, Nat.zero_le _, rfl, HS⟩
    case round =>
      obtain ⟨i, hi, rfl, HP⟩ := hrel
      clear HS c0 c1 c2 cf
      by_cases l1 : i < m
      · obtain ⟨A', n', c', hg, ht⟩ := HP.out
        have hx := List.getElem?_eq_getElem (l := ys) (i := i) (by have := HL.out; omega)
        generalize ys[i]'(by have := HL.out; omega) = x at hx
        obtain ⟨ad, eL, hb, hc⟩ := RD.out.2 i x hx
        subst eL
        have fa := FA.out (by omega) ad rfl
        have hcell : wr.cell? (ad.add i) = some (.int .i64 x) := by
          have hk : (ad.add i).block = ad.block := block_of_add _ _
          rw [← hc]
          unfold World.cell?
          rw [hk, ht.frm.block ad.block hb (fun e => e.elim fa.1 fa.2)]
        have ln : n' = min i M.toNat := by have := hg.row.len; rw [List.length_take, HL.out] at this; omega
        by_cases hf : (n' : Int) < M
        · have HC := Lib.hid (grPush_yes b M _ A' n' c' _ x wr hg hf)
          have HT := Lib.hid ht
          have iM : (i : Int) < M := by omega
          have HE := Lib.hid (show ys.take (min i M.toNat) ++ [x] = ys.take (min (i + 1) M.toNat) from by
            rw [show min i M.toNat = i by omega, show min (i + 1) M.toNat = i + 1 by omega, List.take_add_one, hx]; rfl)
          have HD := Lib.hid (show decide (M < (i : Int)) = decide (M < ((i + 1 : Nat) : Int)) from by rw [decide_eq_false (by omega), decide_eq_false (by omega)])
          clear hg ht hx hc fa hf ln
          go_wp2_with fail
          refine HC.out.mono ?_
          rintro e w2 ⟨rfl, A2, c2, hg2, ht2⟩
          rw [HE.out, HD.out] at hg2
          have HN := Lib.hid (show PutR w b M l _ ys (i + 1) w2 from ⟨A2, _, c2, hg2, HT.out.trans ht2⟩)
          clear hg2 ht2 HT HC HP HE HD hcell
          go_wp2
          go_roundw
          case rel => exact ⟨i + 1, by omega, by go_num, HN⟩
          case measure => simp [intOf]; omega
        · have HC := Lib.hid (grPush_no b M _ A' n' c' _ x wr hg (by omega))
          have HT := Lib.hid ht
          have HE := Lib.hid (show ys.take (min i M.toNat) = ys.take (min (i + 1) M.toNat) from by
            rw [show min i M.toNat = min (i + 1) M.toNat by omega])
          have HD := Lib.hid (show true = (l || decide (M < ((i + 1 : Nat) : Int))) from by rw [decide_eq_true (by omega), Bool.or_true])
          clear hg ht hx hc fa hf ln
          go_wp2_with fail
          refine HC.out.mono ?_
          rintro e w2 ⟨rfl, hg2, ht2⟩
          rw [HE.out, HD.out] at hg2
          have HN := Lib.hid (show PutR w b M l _ ys (i + 1) w2 from ⟨A', _, c', hg2, HT.out.trans ht2⟩)
          clear hg2 ht2 HT HC HP HE HD hcell
          go_wp2
          go_roundw
          case rel => exact ⟨i + 1, by omega, by go_num, HN⟩
          case measure => simp [intOf]; omega
      · obtain rfl : i = m := by omega
        have e : ys.take (min i M.toNat) = ys.take M.toNat := by
          rw [← HL.out, Nat.min_comm, ← List.take_take, List.take_length]
        have HP := Lib.hid (show ∃ A' n' c', IsGr wr b M (l || decide (M < (i : Int))) A' n' c' (ys.take M.toNat) ∧ GrT b _ A' w wr from by rw [← e]; exact HP.out)
        clear e
        go_wp2
        first | go_end0 | refine bodyPost_ret (results_none rfl _ _ _) rfl ?_
        exact ⟨rfl, HP.out⟩
end Go.Proofs.YthmhehehomieiaaGreat

/- The document's Ints: two slices of own memory that hold the same. -/
namespace Go.Proofs.YthmhehehomieiaaGreat
open Go.RowKit

set_option maxHeartbeats 1000000 in
/-- Two slices with the same numbers. -/
theorem ints_qu (A1 A2 : Option Addr) (n c1 c2 : Nat) (xs : List Int) (w : World) (h1 : Qu w A1 n c1 xs) (h2 : Qu w A2 n c2 xs) (few : n ≤ 1048576) :
    Calls Tryz.prog 49 #[.slice A1 n c1, .slice A2 n c2] w fun e w' => e = .returned (.bool true) ∧ Below w.heap.size w w' := by
  have H1 := Lib.hid h1
  have H2 := Lib.hid h2
  have HL := Lib.hid h1.len
  clear h1 h2
  go_enter Tryz.func49, Tryz.ntmps49
  go_wp2_with fail
  go_loopw [5] (fun s wr => ∃ j m : Nat, j ≤ n ∧ s = .int .i64 j ∧ wr = w.drewN m) (fun s _ => n - (intOf s).toNat)
  case atStart => exact ⟨0, 0, Nat.zero_le _, rfl, rfl⟩
  case round =>
    obtain ⟨j, m, hj, rfl, rfl⟩ := hrel
    by_cases hlt : j < n
    · have hy : xs[j]? = some (xs[j]'(by have := HL.out; omega)) := List.getElem?_eq_getElem _
      generalize xs[j]'(by have := HL.out; omega) = y at hy
      obtain ⟨g1, o1, rfl, _, d1, _⟩ := H1.out.at_ (by omega)
      obtain ⟨g2, o2, rfl, _, d2, _⟩ := H2.out.at_ (by omega)
      have x1 := d1 j y hy
      have x2 := d2 j y hy
      have j0 : (0 : Int) ≤ (j : Int) := by omega
      have j1 : (j : Int) < (n : Int) := by omega
      clear d1 d2 hy
      go_wp2_with fail
      go_quiet (fail)
      go_wp2
      go_roundw
      case rel => exact ⟨j + 1, _, by omega, by go_num, rfl⟩
      case measure => simp [intOf]; omega
    · obtain rfl : j = n := by omega
      go_wp2
      go_ret
      exact ⟨rfl, below_drewN _ _⟩
end Go.Proofs.YthmhehehomieiaaGreat

/- A stack made since some world, with blocks beside it that it leaves; awake, GreyNone. -/
namespace Go.Proofs.YthmhehehomieiaaGreat
open Go.RowKit

/-- Block b is a stack made since w0; no block of Z is its own; what there was is as it was. -/
structure Gz (w0 w : World) (Z : Nat → Prop) (b : Nat) (M : Int) (l : Bool) (xs : List Int) : Prop where
  is : ∃ A c, IsGr w b M l A xs.length c xs ∧ ∀ k, (k = b ∨ blkOf A = some k) → w0.heap.size ≤ k ∧ ¬ Z k
  bel : Below w0.heap.size w0 w
  low : ∀ k, Z k → w0.heap.size ≤ k ∧ k < w.heap.size

theorem IsGr.own_lt {w : World} {b : Nat} {M : Int} {l : Bool} {A : Option Addr} {n c : Nat} {xs : List Int} (h : IsGr w b M l A n c xs) {k : Nat} (hk : k = b ∨ blkOf A = some k) : k < w.heap.size := by
  rcases hk with rfl | e
  · exact h.lt
  · exact h.row.lt e

section
variable {w0 w w' : World} {Z Z' : Nat → Prop} {b : Nat} {M : Int} {l : Bool} {xs : List Int} {x : Int}

theorem Gz.keep (h : Gz w0 w Z b M l xs) (f : Below w.heap.size w w') : Gz w0 w' Z b M l xs := by
  obtain ⟨A, c, hp, ho⟩ := h.is
  exact ⟨⟨A, c, hp.keep f, ho⟩, below_trans h.bel f, fun k hk => ⟨(h.low k hk).1, Nat.lt_of_lt_of_le (h.low k hk).2 f.size⟩⟩

/-- What is beside it has been written to; new blocks may be beside it. -/
theorem Gz.write {S : Nat → Prop} (h : Gz w0 w Z b M l xs) (f : Frm S w w') (hs : ∀ k, k < w.heap.size → S k → Z k) (hz : ∀ k, Z' k → Z k ∨ (w.heap.size ≤ k ∧ k < w'.heap.size)) : Gz w0 w' Z' b M l xs := by
  obtain ⟨A, c, hp, ho⟩ := h.is
  refine ⟨⟨A, c, hp.frm f (fun e => (ho b (.inl rfl)).2 (hs b hp.lt e)) (fun k hk e => (ho k (.inr hk)).2 (hs k (hp.row.lt hk) e)), fun k hk => ⟨(ho k hk).1, fun e => ?_⟩⟩, Below.frm h.bel f h.bel.size (fun k hk e => ?_), fun k hk => ?_⟩
  · rcases hz k e with e | e
    · exact (ho k hk).2 e
    · have := hp.own_lt hk; omega
  · have := (h.low k (hs k (Nat.lt_of_lt_of_le hk h.bel.size) e)).1; omega
  · rcases hz k hk with e | e
    · exact ⟨(h.low k e).1, Nat.lt_of_lt_of_le (h.low k e).2 f.size⟩
    · exact ⟨Nat.le_trans h.bel.size e.1, e.2⟩

/-- New blocks are beside it. -/
theorem Gz.grow (h : Gz w0 w Z b M l xs) (f : Below w.heap.size w w') (hz : ∀ k, Z' k → Z k ∨ (w.heap.size ≤ k ∧ k < w'.heap.size)) : Gz w0 w' Z' b M l xs :=
  h.write (S := fun _ => False) (Frm.of_below f) (fun _ _ e => e.elim) hz

theorem Gz.step {A A' : Option Addr} {c n' c' : Nat} {l' : Bool} {ys : List Int} (h : Gz w0 w Z b M l xs) (_ : IsGr w b M l A xs.length c xs) (ho : ∀ k, (k = b ∨ blkOf A = some k) → w0.heap.size ≤ k ∧ ¬ Z k)
    (hp' : IsGr w' b M l' A' n' c' ys) (t : GrT b A A' w w') : Gz w0 w' Z b M l' ys ∧ Kp Z w w' := by
  obtain rfl : ys.length = n' := hp'.row.len
  refine ⟨⟨⟨A', c', hp', fun k hk => ?_⟩, Below.frm h.bel t.frm h.bel.size (fun k hk e => by have := (ho k e).1; omega), fun k hk => ⟨(h.low k hk).1, Nat.lt_of_lt_of_le (h.low k hk).2 t.frm.size⟩⟩, t.frm.mono fun i _ e => (ho i e).2⟩
  rcases hk with rfl | e
  · exact ho k (.inl rfl)
  · rcases t.at_ k e with e1 | e1
    · exact ho k (.inr e1)
    · exact ⟨Nat.le_trans h.bel.size e1, fun z => by have := (h.low k z).2; omega⟩

theorem Gz.few (h : Gz w0 w Z b M l xs) : 0 ≤ M ∧ M ≤ 1048576 ∧ (xs.length : Int) ≤ M := by
  obtain ⟨A, c, hp, _⟩ := h.is
  exact ⟨hp.m0, hp.m1, hp.few⟩

theorem gz_new (m : Int) (bel : Below w0.heap.size w0 w) (low : ∀ k, Z k → w0.heap.size ≤ k ∧ k < w.heap.size) :
    Calls Tryz.prog 66 #[.int .i64 m] w fun e w' => ∃ b, e = .returned (grP b) ∧ Gz w0 w' Z b (cutI m 0 1048576) false [] ∧ Kp Z w w' :=
  (grNew_any m w).mono fun _ _ ⟨he, hb, bb⟩ => ⟨_, he, ⟨⟨none, 0, hb, fun k e => by
    rcases e with rfl | e
    · exact ⟨bel.size, fun z => by have := (low _ z).2; omega⟩
    · cases e⟩, below_trans bel bb, fun k hk => ⟨(low k hk).1, Nat.lt_of_lt_of_le (low k hk).2 bb.size⟩⟩, Kp.of_below bb⟩

theorem gz_push_yes (h : Gz w0 w Z b M l xs) (hn : (xs.length : Int) < M) (x : Int) :
    Calls Tryz.prog 77 #[grP b, .int .i64 x] w fun e w' => e = .returned (.bool true) ∧ Gz w0 w' Z b M l (xs ++ [x]) ∧ Kp Z w w' := by
  obtain ⟨A, c, hp, ho⟩ := h.is
  exact (grPush_yes b M l A _ c xs x w hp hn).mono fun _ _ ⟨he, A', c', h', t⟩ => ⟨he, h.step hp ho h' t⟩

theorem gz_push_no (h : Gz w0 w Z b M l xs) (hn : M ≤ xs.length) (x : Int) :
    Calls Tryz.prog 77 #[grP b, .int .i64 x] w fun e w' => e = .returned (.bool false) ∧ Gz w0 w' Z b M true xs ∧ Kp Z w w' := by
  obtain ⟨A, c, hp, ho⟩ := h.is
  exact (grPush_no b M l A _ c xs x w hp hn).mono fun _ _ ⟨he, h', t⟩ => ⟨he, h.step hp ho h' t⟩





theorem gz_len (h : Gz w0 w Z b M l xs) : Calls Tryz.prog 38 #[grP b] w fun e w' => e = .returned (.int .i64 xs.length) ∧ w = w' := by
  obtain ⟨A, c, hp, ho⟩ := h.is
  exact grLen_any b M l A _ c xs w hp

theorem gz_all (h : Gz w0 w Z b M l xs) :
    Calls Tryz.prog 135 #[grP b] w fun e w' => ∃ A' c', e = .returned (.slice A' xs.length c') ∧ Qu w' A' xs.length c' xs ∧ Below w.heap.size w w' := by
  obtain ⟨A, c, hp, ho⟩ := h.is
  exact (grAll_any b M l A _ c xs w hp).mono fun _ _ ⟨A', c', he, q, bb, _⟩ => ⟨A', c', he, q, bb⟩

/-- A list beside the stack, or as old as w0, is put there. -/
theorem gz_put {ys : List Int} {L : Option Addr} {m d : Nat} (h : Gz w0 w Z b M l xs) (rd : Rd .i64 w L m ys) (hm : m ≤ maxLen) (far : 0 < m → ∀ ad, L = some ad → ad.block < w0.heap.size ∨ Z ad.block) :
    Calls Tryz.prog 136 #[grP b, .slice L m d] w fun e w' => e = .returned (.tuple #[]) ∧ Gz w0 w' Z b M (l || decide (M < (m : Int))) (ys.take M.toNat) ∧ Kp Z w w' := by
  obtain ⟨A, c, hp, ho⟩ := h.is
  refine (grPut_any b M l A _ c xs ys L m d w hp rd hm (fun m0 ad e => ?_)).mono fun _ _ ⟨he, A', n', c', h', t⟩ => ⟨he, h.step hp ho h' t⟩
  rcases far m0 ad e with f | f
  · exact ⟨fun e => by have := (ho _ (.inl e)).1; omega, fun e => by have := (ho _ (.inr e)).1; omega⟩
  · exact ⟨fun e => (ho _ (.inl e)).2 f, fun e => (ho _ (.inr e)).2 f⟩
end

theorem noZ_low {a c : Nat} : ∀ k, noZ k → a ≤ k ∧ k < c := fun _ h => h.elim

/-- A slice that was just made, as a list. -/
theorem rd_new {k : IntKind} (w : World) (xs : List Int) (t : TypeId) : Rd k (w.alloc (.cells (xs.map (Value.int k)).toArray t)) (some ⟨w.heap.size, 0, none⟩) xs.length xs :=
  ⟨rfl, fun i x hx => ⟨_, rfl, by simp, by rw [Addr.add_lit, Nat.zero_add, (Blk.new w _ t).cell]; simp [hx]⟩⟩

theorem qu_new (w : World) (xs : List Int) (h : xs.length ≤ maxLen) : Qu (w.alloc (.cells (xs.map (Value.int .i64)).toArray 3)) (some ⟨w.heap.size, 0, none⟩) xs.length xs.length xs :=
  ⟨rfl, Nat.le_refl _, h, .inr ⟨w.heap.size, 0, _, rfl, Blk.new w _ _, by simp, fun i x hx => by simp [hx]⟩⟩


end Go.Proofs.YthmhehehomieiaaGreat

/- A table in memory; contracts of the program's New, has, Get, Set, All; of none, too. -/
namespace Go.Proofs.YthmhehehomieiaaGreat
open Go.RowKit

/-- Block b is a table, whose handles hold xs, in block g. -/
structure IsHt (w : World) (b g : Nat) (xs : List Int) : Prop where
  blk : Blk w b #[.slice (some ⟨g, 0, none⟩) xs.length xs.length] 112
  row : Blk w g (ints xs).toArray 3
  few : xs.length ≤ 64

/-- So many noughts. -/
def zeros (n : Int) : List Int := List.replicate n.toNat 0
theorem zeros_length (n : Int) : (zeros n).length = n.toNat := List.length_replicate

abbrev htP (b : Nat) : Value := .pointer (some ⟨b, 0, none⟩)

theorem madeI (n : Nat) : madeCells (Value.int .i64 0).cells n = (ints (zeros n)).toArray := by
  apply Array.ext
  · simp [madeCells, ints, zeros]
  · intro i h1 h2
    simp [madeCells, Value.cells, Nat.mod_one, ints, zeros]

/-- Numbers that are made. -/
theorem run_make_int (n : Int) (h0 : 0 ≤ n) (h1 : n ≤ 1073741824) (w : World) :
    (Instr.makeSlice 39 (.int .i64 n) (.int .i64 n)).run Tryz.prog w = .ok (.slice (some ⟨w.heap.size, 0, none⟩) n.toNat n.toNat) (w.alloc (.cells (ints (zeros n)).toArray 3)) := by
  obtain ⟨i, hi, hz, hs, hb⟩ := info_parts info_int
  have h := run_make (P := Tryz.prog) w 39 3 i _ Tryz.underlying39 hi hz .i64 .i64 n n h0 (Int.le_refl _) (by rw [hb]; omega) (by omega)
  rw [hs, Nat.mul_one, madeI, Int.toNat_of_nonneg h0] at h
  exact h

theorem Blk.ints_at {w : World} {b : Nat} {t : TypeId} {xs : List Int} (h : Blk w b (ints xs).toArray t) {i : Nat} {x : Int} (hx : xs[i]? = some x) : w.cell? ⟨b, i, none⟩ = some (.int .i64 x) := by
  rw [h.cell]; simp [ints, hx]

theorem Blk.setInt {w : World} {b : Nat} {t : TypeId} {xs : List Int} (h : Blk w b (ints xs).toArray t) (i : Nat) (x : Int) : Blk (w.setCell ⟨b, i, none⟩ (.int .i64 x)) b (ints (xs.set i x)).toArray t := by
  have := h.set_ i (.int .i64 x)
  have e : (ints xs).toArray.setIfInBounds i (.int .i64 x) = (ints (xs.set i x)).toArray := by
    apply Array.ext'
    simp [ints]
  rw [← e]
  exact this

section
variable {w w' : World} {b g : Nat} {xs : List Int}
theorem IsHt.ne (h : IsHt w b g xs) : b ≠ g := Blk.ne_ h.blk h.row (by decide)
theorem IsHt.keep (h : IsHt w b g xs) (f : Below w.heap.size w w') : IsHt w' b g xs := { h with blk := h.blk.keep f, row := h.row.keep f }
theorem IsHt.frm {S : Nat → Prop} (h : IsHt w b g xs) (f : Frm S w w') (hb : ¬ S b) (hg : ¬ S g) : IsHt w' b g xs := { h with blk := h.blk.frm f hb, row := h.row.frm f hg }
theorem IsHt.qu (h : IsHt w b g xs) : Qu w (some ⟨g, 0, none⟩) xs.length xs.length xs :=
  ⟨rfl, Nat.le_refl _, Nat.le_trans h.few (by decide), .inr ⟨g, 0, _, rfl, h.row, by simp [ints], fun i x hx => by simp [ints, hx]⟩⟩
theorem IsHt.set (h : IsHt w b g xs) (i : Nat) (x : Int) : IsHt (w.setCell ⟨g, i, none⟩ (.int .i64 x)) b g (xs.set i x) :=
  ⟨by rw [List.length_set]; exact h.blk.far (p := ⟨g, i, none⟩) h.ne _, h.row.setInt i x, by rw [List.length_set]; exact h.few⟩
end

theorem tb_made (w : World) (n K : Int) (N : Nat) (e : cutI n 0 64 = K) (eN : K.toNat = N) : IsHt ((w.alloc (.cells (ints (zeros K)).toArray 3)).alloc (.cells #[.slice (some ⟨w.heap.size, 0, none⟩) N N] 112)) (w.heap.size + 1) w.heap.size (zeros (cutI n 0 64)) := by
  subst e
  subst eN
  have hk := cutI_in (n := n) (l := 0) (m := 64) (by decide)
  refine ⟨?_, (Blk.new w _ _).alloc _, by rw [zeros_length]; omega⟩
  rw [zeros_length]
  have := Blk.new (w.alloc (.cells (ints (zeros (cutI n 0 64))).toArray 3)) #[.slice (some ⟨w.heap.size, 0, none⟩) (cutI n 0 64).toNat (cutI n 0 64).toNat] 112
  simpa using this

set_option maxHeartbeats 1000000 in
theorem tbNew_any (n : Int) (w : World) :
    Calls Tryz.prog 67 #[.int .i64 n] w fun e w' => e = .returned (htP (w.heap.size + 1)) ∧ IsHt w' (w.heap.size + 1) w.heap.size (zeros (cutI n 0 64)) ∧ Below w.heap.size w w' := by
  by_cases h0 : n < 0
  · have mk := run_make_int 0 (by decide) (by decide)
    have e0 := Lib.hid (show cutI n 0 64 = 0 by unfold cutI; rw [if_pos h0])
    go_enter Tryz.func67, Tryz.ntmps67
    go_wp2
    go_ret
    exact ⟨rfl, tb_made w n 0 0 e0.out rfl, ((Below.refl _ _).alloc (Nat.le_refl _) _).alloc (by simp) _⟩
  · by_cases h1 : 64 < n
    · have mk := run_make_int 64 (by decide) (by decide)
      have e0 := Lib.hid (show cutI n 0 64 = 64 by unfold cutI; rw [if_neg h0, if_pos h1])
      go_enter Tryz.func67, Tryz.ntmps67
      go_wp2
      go_ret
      exact ⟨rfl, tb_made w n 64 64 e0.out rfl, ((Below.refl _ _).alloc (Nat.le_refl _) _).alloc (by simp) _⟩
    · have mk := run_make_int n (by omega) (by omega)
      have e0 := Lib.hid (show cutI n 0 64 = n by unfold cutI; rw [if_neg h0, if_neg h1])
      go_enter Tryz.func67, Tryz.ntmps67
      go_wp2
      go_ret
      exact ⟨rfl, tb_made w n n _ e0.out rfl, ((Below.refl _ _).alloc (Nat.le_refl _) _).alloc (by simp) _⟩

section
variable (b g : Nat) (xs : List Int) (x : Int) (w : World)

set_option maxHeartbeats 1000000 in
theorem tbHas_yes (h : IsHt w b g xs) (j : Nat) (hj : j < xs.length) :
    Calls Tryz.prog 103 #[htP b, .int .i64 j] w fun e w' => e = .returned (.bool true) ∧ w = w' := by
  have c0 := h.blk.cell 0
  simp only [List.getElem?_toArray, List.getElem?_cons_zero] at c0
  clear h
  go_enter Tryz.func103, Tryz.ntmps103
  go_wp2
  go_ret
  exact ⟨rfl, rfl⟩

set_option maxHeartbeats 1000000 in
theorem tbHas_no (h : IsHt w b g xs) (hn : x < 0 ∨ (xs.length : Int) ≤ x) :
    Calls Tryz.prog 103 #[htP b, .int .i64 x] w fun e w' => e = .returned (.bool false) ∧ w = w' := by
  have c0 := h.blk.cell 0
  simp only [List.getElem?_toArray, List.getElem?_cons_zero] at c0
  clear h
  by_cases h0 : x < 0
  · clear hn
    go_enter Tryz.func103, Tryz.ntmps103
    go_wp2
    go_ret
    exact ⟨rfl, rfl⟩
  · have h1 : (xs.length : Int) ≤ x := by omega
    have d : decide (x < (xs.length : Int)) = false := decide_eq_false (by omega)
    clear hn
    go_enter Tryz.func103, Tryz.ntmps103
    go_wp2
    go_ret
    exact ⟨rfl, rfl⟩

set_option maxHeartbeats 1000000 in
theorem tbHas_nil : Calls Tryz.prog 103 #[.pointer none, .int .i64 x] w fun e w' => e = .returned (.bool false) ∧ w = w' := by
  go_enter Tryz.func103, Tryz.ntmps103
  go_wp2
  go_ret
  exact ⟨rfl, rfl⟩

set_option maxHeartbeats 1000000 in
theorem tbGet_yes (h : IsHt w b g xs) (j : Nat) (hx : xs[j]? = some x) :
    Calls Tryz.prog 53 #[htP b, .int .i64 j] w fun e w' => e = .returned (.tuple #[.int .i64 x, .int .i64 0]) ∧ w = w' := by
  have hj : j < xs.length := (List.getElem?_eq_some_iff.1 hx).1
  have c0 := h.blk.cell 0
  simp only [List.getElem?_toArray, List.getElem?_cons_zero] at c0
  have c1 := h.row.ints_at hx
  have H := Lib.hid (tbHas_yes b g xs w h j hj)
  have j0 : (0 : Int) ≤ (j : Int) := by omega
  have j1 : (j : Int) < (xs.length : Int) := by omega
  clear h hx
  go_enter Tryz.func53, Tryz.ntmps53
  go_wp2_with fail
  refine H.out.mono ?_
  rintro e w1 ⟨rfl, rfl⟩
  go_wp2
  go_ret2
  exact ⟨rfl, rfl⟩

set_option maxHeartbeats 1000000 in
theorem tbGet_no (h : IsHt w b g xs) (hn : x < 0 ∨ (xs.length : Int) ≤ x) :
    Calls Tryz.prog 53 #[htP b, .int .i64 x] w fun e w' => e = .returned (.tuple #[.int .i64 0, .int .i64 3]) ∧ w = w' := by
  have H := Lib.hid (tbHas_no b g xs x w h hn)
  clear h hn
  go_enter Tryz.func53, Tryz.ntmps53
  go_wp2_with fail
  refine H.out.mono ?_
  rintro e w1 ⟨rfl, rfl⟩
  go_wp2
  go_ret2
  exact ⟨rfl, rfl⟩

set_option maxHeartbeats 1000000 in
theorem tbGet_nil : Calls Tryz.prog 53 #[.pointer none, .int .i64 x] w fun e w' => e = .returned (.tuple #[.int .i64 0, .int .i64 3]) ∧ w = w' := by
  go_enter Tryz.func53, Tryz.ntmps53
  go_wp2_with fail
  refine (tbHas_nil x w).mono ?_
  rintro e w1 ⟨rfl, rfl⟩
  go_wp2
  go_ret2
  exact ⟨rfl, rfl⟩

set_option maxHeartbeats 1000000 in
theorem tbSet_yes (h : IsHt w b g xs) (j : Nat) (hj : j < xs.length) :
    Calls Tryz.prog 88 #[htP b, .int .i64 j, .int .i64 x] w fun e w' => e = .returned (.int .i64 0) ∧ IsHt w' b g (xs.set j x) ∧ Frm (fun k => k = g) w w' := by
  have c0 := h.blk.cell 0
  simp only [List.getElem?_toArray, List.getElem?_cons_zero] at c0
  have c1 := h.row.ints_at (List.getElem?_eq_getElem hj)
  have cf := h.row.frozen j
  generalize xs[j] = y at c1
  have H := Lib.hid (tbHas_yes b g xs w h j hj)
  have HS := Lib.hid (h.set j x)
  have j0 : (0 : Int) ≤ (j : Int) := by omega
  have j1 : (j : Int) < (xs.length : Int) := by omega
  clear h
  go_enter Tryz.func88, Tryz.ntmps88
  go_wp2_with fail
  refine H.out.mono ?_
  rintro e w1 ⟨rfl, rfl⟩
  go_wp2
  go_ret
  exact ⟨rfl, HS.out, Frm.setCell (S := fun k => k = g) (Frm.refl _ _) (p := ⟨g, j, none⟩) (fun _ => rfl) _⟩

set_option maxHeartbeats 1000000 in
theorem tbSet_no (y : Int) (h : IsHt w b g xs) (hn : x < 0 ∨ (xs.length : Int) ≤ x) :
    Calls Tryz.prog 88 #[htP b, .int .i64 x, .int .i64 y] w fun e w' => e = .returned (.int .i64 3) ∧ w = w' := by
  have H := Lib.hid (tbHas_no b g xs x w h hn)
  clear h hn
  go_enter Tryz.func88, Tryz.ntmps88
  go_wp2_with fail
  refine H.out.mono ?_
  rintro e w1 ⟨rfl, rfl⟩
  go_wp2
  go_ret
  exact ⟨rfl, rfl⟩

set_option maxHeartbeats 1000000 in
theorem tbSet_nil (y : Int) : Calls Tryz.prog 88 #[.pointer none, .int .i64 x, .int .i64 y] w fun e w' => e = .returned (.int .i64 3) ∧ w = w' := by
  go_enter Tryz.func88, Tryz.ntmps88
  go_wp2_with fail
  refine (tbHas_nil x w).mono ?_
  rintro e w1 ⟨rfl, rfl⟩
  go_wp2
  go_ret
  exact ⟨rfl, rfl⟩

set_option maxHeartbeats 1000000 in
theorem tbAll_any (h : IsHt w b g xs) :
    Calls Tryz.prog 21 #[htP b] w fun e w' => ∃ A' c', e = .returned (.slice A' xs.length c') ∧ Qu w' A' xs.length c' xs ∧ Below w.heap.size w w' ∧ ∀ k, blkOf A' = some k → w.heap.size ≤ k := by
  have c0 := h.blk.cell 0
  simp only [List.getElem?_toArray, List.getElem?_cons_zero] at c0
  have H := Lib.hid (clone_qu _ _ _ xs w h.qu (Nat.le_trans h.few (by decide)))
  clear h
  go_enter Tryz.func21, Tryz.ntmps21
  go_wp2_with fail
  refine H.out.mono ?_
  rintro e w1 ⟨A', c', rfl, b1⟩
  have B := Lib.hid b1
  clear b1
  go_wp2
  go_ret
  exact ⟨A', c', rfl, B.out⟩

set_option maxHeartbeats 1000000 in
theorem tbAll_nil : Calls Tryz.prog 21 #[.pointer none] w fun e w' => e = .returned (.slice none 0 0) ∧ w = w' := by
  go_enter Tryz.func21, Tryz.ntmps21
  go_wp2
  go_ret
  exact ⟨rfl, rfl⟩
end
end Go.Proofs.YthmhehehomieiaaGreat

/- A table made since some world, with blocks beside it that it leaves. -/
namespace Go.Proofs.YthmhehehomieiaaGreat
open Go.RowKit

/-- Block b is a table made since w0; no block of Z is its own; what there was is as it was. -/
structure Hz (w0 w : World) (Z : Nat → Prop) (b : Nat) (xs : List Int) : Prop where
  is : ∃ g, IsHt w b g xs ∧ ∀ k, (k = b ∨ k = g) → w0.heap.size ≤ k ∧ ¬ Z k
  bel : Below w0.heap.size w0 w
  low : ∀ k, Z k → w0.heap.size ≤ k ∧ k < w.heap.size

section
variable {w0 w w' : World} {Z Z' : Nat → Prop} {b : Nat} {xs : List Int} {x : Int}

theorem Hz.few (h : Hz w0 w Z b xs) : xs.length ≤ 64 := by
  obtain ⟨g, hp, _⟩ := h.is
  exact hp.few

theorem Hz.keep (h : Hz w0 w Z b xs) (f : Below w.heap.size w w') : Hz w0 w' Z b xs := by
  obtain ⟨g, hp, ho⟩ := h.is
  exact ⟨⟨g, hp.keep f, ho⟩, below_trans h.bel f, fun k hk => ⟨(h.low k hk).1, Nat.lt_of_lt_of_le (h.low k hk).2 f.size⟩⟩

/-- What is beside it has been written to; new blocks may be beside it. -/
theorem Hz.write {S : Nat → Prop} (h : Hz w0 w Z b xs) (f : Frm S w w') (hs : ∀ k, k < w.heap.size → S k → Z k) (hz : ∀ k, Z' k → Z k ∨ (w.heap.size ≤ k ∧ k < w'.heap.size)) : Hz w0 w' Z' b xs := by
  obtain ⟨g, hp, ho⟩ := h.is
  refine ⟨⟨g, hp.frm f (fun e => (ho b (.inl rfl)).2 (hs b hp.blk.lt e)) (fun e => (ho g (.inr rfl)).2 (hs g hp.row.lt e)), fun k hk => ⟨(ho k hk).1, fun e => ?_⟩⟩, Below.frm h.bel f h.bel.size (fun k hk e => ?_), fun k hk => ?_⟩
  · rcases hz k e with e | e
    · exact (ho k hk).2 e
    · have := hp.blk.lt; have := hp.row.lt; omega
  · have := (h.low k (hs k (Nat.lt_of_lt_of_le hk h.bel.size) e)).1; omega
  · rcases hz k hk with e | e
    · exact ⟨(h.low k e).1, Nat.lt_of_lt_of_le (h.low k e).2 f.size⟩
    · exact ⟨Nat.le_trans h.bel.size e.1, e.2⟩

/-- New blocks are beside it. -/
theorem Hz.grow (h : Hz w0 w Z b xs) (f : Below w.heap.size w w') (hz : ∀ k, Z' k → Z k ∨ (w.heap.size ≤ k ∧ k < w'.heap.size)) : Hz w0 w' Z' b xs :=
  h.write (S := fun _ => False) (Frm.of_below f) (fun _ _ e => e.elim) hz

theorem hz_new (n : Int) (bel : Below w0.heap.size w0 w) (low : ∀ k, Z k → w0.heap.size ≤ k ∧ k < w.heap.size) :
    Calls Tryz.prog 67 #[.int .i64 n] w fun e w' => ∃ b, e = .returned (htP b) ∧ Hz w0 w' Z b (zeros (cutI n 0 64)) ∧ Kp Z w w' :=
  (tbNew_any n w).mono fun _ _ ⟨he, hb, bb⟩ => ⟨_, he, ⟨⟨_, hb, fun k e => by
    have := bel.size
    refine ⟨by omega, fun z => by have := (low _ z).2; omega⟩⟩, below_trans bel bb, fun k hk => ⟨(low k hk).1, Nat.lt_of_lt_of_le (low k hk).2 bb.size⟩⟩, Kp.of_below bb⟩

theorem hz_get_yes (h : Hz w0 w Z b xs) (j : Nat) (hx : xs[j]? = some x) :
    Calls Tryz.prog 53 #[htP b, .int .i64 j] w fun e w' => e = .returned (.tuple #[.int .i64 x, .int .i64 0]) ∧ w = w' := by
  obtain ⟨g, hp, ho⟩ := h.is
  exact tbGet_yes b g xs x w hp j hx

theorem hz_get_no (h : Hz w0 w Z b xs) (hn : x < 0 ∨ (xs.length : Int) ≤ x) :
    Calls Tryz.prog 53 #[htP b, .int .i64 x] w fun e w' => e = .returned (.tuple #[.int .i64 0, .int .i64 3]) ∧ w = w' := by
  obtain ⟨g, hp, ho⟩ := h.is
  exact tbGet_no b g xs x w hp hn

theorem hz_set_yes (h : Hz w0 w Z b xs) (j : Nat) (hj : j < xs.length) (x : Int) :
    Calls Tryz.prog 88 #[htP b, .int .i64 j, .int .i64 x] w fun e w' => e = .returned (.int .i64 0) ∧ Hz w0 w' Z b (xs.set j x) ∧ Kp Z w w' := by
  obtain ⟨g, hp, ho⟩ := h.is
  exact (tbSet_yes b g xs x w hp j hj).mono fun _ _ ⟨he, h', f⟩ => ⟨he, ⟨⟨g, h', ho⟩, Below.frm h.bel f h.bel.size (fun k hk e => by have := (ho k (.inr e)).1; omega), fun k hk => ⟨(h.low k hk).1, Nat.lt_of_lt_of_le (h.low k hk).2 f.size⟩⟩,
    f.mono fun i _ e => (ho i (.inr e)).2⟩

theorem hz_set_no (h : Hz w0 w Z b xs) (hn : x < 0 ∨ (xs.length : Int) ≤ x) (y : Int) :
    Calls Tryz.prog 88 #[htP b, .int .i64 x, .int .i64 y] w fun e w' => e = .returned (.int .i64 3) ∧ w = w' := by
  obtain ⟨g, hp, ho⟩ := h.is
  exact tbSet_no b g xs x w y hp hn

theorem hz_all (h : Hz w0 w Z b xs) {n : Nat} (hn : xs.length = n) :
    Calls Tryz.prog 21 #[htP b] w fun e w' => ∃ A' c', e = .returned (.slice A' n c') ∧ Qu w' A' n c' xs ∧ Below w.heap.size w w' ∧ ∀ k, blkOf A' = some k → w.heap.size ≤ k := by
  subst hn
  obtain ⟨g, hp, ho⟩ := h.is
  exact tbAll_any b g xs w hp
end
end Go.Proofs.YthmhehehomieiaaGreat

/- Contracts of the small functions of package conf and of the statements of layer 3: within, in, divides, all. -/
namespace Go.Proofs.YthmhehehomieiaaGreat
open Go.RowKit

def wiB (n f t : Int) : Bool := decide (f ≤ n ∧ n ≤ t)

set_option maxHeartbeats 400000 in
theorem confWithin_any (n f t : Int) (w : World) :
    Calls Tryz.prog 58 #[.int .i64 n, .int .i64 f, .int .i64 t] w fun e w' => e = .returned (.bool (wiB n f t)) ∧ w = w' := by
  by_cases h0 : f ≤ n
  · by_cases h1 : n ≤ t
    all_goals
      go_enter Tryz.func58, Tryz.ntmps58
      go_wp2
      go_ret
      exact ⟨by simp [wiB, h0, h1], rfl⟩
  · go_enter Tryz.func58, Tryz.ntmps58
    go_wp2
    go_ret
    exact ⟨by rw [show wiB n f t = false from by unfold wiB; exact decide_eq_false (by omega)]; rfl, rfl⟩


def dvB (p n : Int) : Bool := decide (1 ≤ p) && (n.tmod p == 0)

set_option maxHeartbeats 400000 in
theorem divides_any (p n : Int) (w : World) :
    Calls Tryz.prog 59 #[.int .i64 p, .int .i64 n] w fun e w' => e = .returned (.bool (dvB p n)) ∧ w = w' := by
  by_cases h0 : 1 ≤ p
  · go_enter Tryz.func59, Tryz.ntmps59
    go_wp2
    go_ret
    exact ⟨by simp [dvB, h0], rfl⟩
  · go_enter Tryz.func59, Tryz.ntmps59
    go_wp2
    go_ret
    exact ⟨by rw [show dvB p n = false from by unfold dvB; rw [decide_eq_false (by omega)]; rfl]; rfl, rfl⟩

set_option maxHeartbeats 1000000 in
theorem all_any (bs : List Bool) (b : Nat) (t : TypeId) (w : World) (hn : bs.length ≤ 1000) (h : Blk w b (bs.map Value.bool).toArray t) :
    Calls Tryz.prog 57 #[.slice (some ⟨b, 0, none⟩) bs.length bs.length] w fun e w' => e = .returned (.bool (bs.all id)) ∧ w = w' := by
  have hc : ∀ i : Nat, w.cell? ⟨b, i, none⟩ = (bs[i]?).map Value.bool := fun i => by rw [h.cell]; simp
  have hfz := h.frozen
  have HC := Lib.hid hc
  clear hc h
  go_enter Tryz.func57, Tryz.ntmps57
  go_wp2_with fail
  go_loopw [7] (fun i wr => ∃ j : Nat, j ≤ bs.length ∧ i = .int .i64 j ∧ (∀ k, k < j → bs[k]? = some true) ∧ w = wr) (fun i _ => bs.length - (intOf i).toNat)
  case atStart => exact ⟨0, Nat.zero_le _, rfl, fun k hk => by omega, rfl⟩
  case round =>
    obtain ⟨j, hj, rfl, ht, rfl⟩ := hrel
    have HT := Lib.hid ht
    clear ht
    by_cases hlt : j < bs.length
    · obtain ⟨x, hx⟩ : ∃ x, bs[j]? = some x := ⟨_, List.getElem?_eq_getElem hlt⟩
      have hcj := HC.out j
      rw [hx, Option.map_some] at hcj
      have HX := Lib.hid hx
      clear hx
      cases x
      · go_wp2
        go_ret
        refine ⟨?_, rfl⟩
        have : bs.all id = false := by
          rw [List.all_eq_false]
          exact ⟨false, List.mem_of_getElem? HX.out, by simp⟩
        rw [this]; rfl
      · go_wp2
        go_roundw
        case rel => exact ⟨j + 1, by omega, by go_num, fun k hk => by
          by_cases e : k = j
          · subst e; exact HX.out
          · exact HT.out k (by omega), by trivial⟩
        case measure => simp [intOf]; omega
    · obtain rfl : j = bs.length := by omega
      go_wp2
      go_ret
      refine ⟨?_, rfl⟩
      have : bs.all id = true := by
        rw [List.all_eq_true]
        intro x hx
        obtain ⟨k, hk, rfl⟩ := List.getElem_of_mem hx
        have := HT.out k hk
        rw [List.getElem?_eq_getElem hk] at this
        simpa using this
      rw [this]; rfl
end Go.Proofs.YthmhehehomieiaaGreat

/- Contract of Check: ErrArg just where one of the thirteen conditions fails. -/
namespace Go.Proofs.YthmhehehomieiaaGreat
open Go.RowKit

/-- A configuration as a value. -/
abbrev cfV (ha nu ps pz cd bf st tn lg mi ma na ja : Int) : Value :=
  .agg #[.int .i64 ha, .int .i64 nu, .int .i64 ps, .int .i64 pz, .int .i64 cd, .int .i64 bf, .int .i64 st, .int .i64 tn, .int .i64 lg, .int .i64 mi, .int .i64 ma, .int .i64 na, .int .i64 ja]

theorem Blk.thirteen {w : World} {b : Nat} {t : TypeId} {v0 v1 v2 v3 v4 v5 v6 v7 v8 v9 v10 v11 v12 : Value} (h : Blk w b #[v0, v1, v2, v3, v4, v5, v6, v7, v8, v9, v10, v11, v12] t) :
    w.cell? ⟨b, 0, none⟩ = some v0 ∧ w.cell? ⟨b, 1, none⟩ = some v1 ∧ w.cell? ⟨b, 2, none⟩ = some v2 ∧ w.cell? ⟨b, 3, none⟩ = some v3 ∧ w.cell? ⟨b, 4, none⟩ = some v4 ∧ w.cell? ⟨b, 5, none⟩ = some v5 ∧ w.cell? ⟨b, 6, none⟩ = some v6 ∧
    w.cell? ⟨b, 7, none⟩ = some v7 ∧ w.cell? ⟨b, 8, none⟩ = some v8 ∧ w.cell? ⟨b, 9, none⟩ = some v9 ∧ w.cell? ⟨b, 10, none⟩ = some v10 ∧ w.cell? ⟨b, 11, none⟩ = some v11 ∧ w.cell? ⟨b, 12, none⟩ = some v12 :=
  ⟨h.cell 0, h.cell 1, h.cell 2, h.cell 3, h.cell 4, h.cell 5, h.cell 6, h.cell 7, h.cell 8, h.cell 9, h.cell 10, h.cell 11, h.cell 12⟩

def cnds (ha nu ps pz cd bf st tn lg mi ma na ja : Int) : List Bool :=
  [wiB ha 1 64, wiB nu 8 4096, wiB ps 0 64, wiB pz 16 256, dvB cd pz, wiB bf 0 256, wiB st 1 256, wiB tn 1 7, wiB lg 0 (if IntKind.i64.wrap (nu - 2) < 64 then IntKind.i64.wrap (nu - 2) else 64), wiB mi 0 64, wiB ma 0 64, wiB na 0 nu, wiB ja 0 ps]

def mayB (ha nu ps pz cd bf st tn lg mi ma na ja : Int) : Bool := (cnds ha nu ps pz cd bf st tn lg mi ma na ja).all id

def errI (b : Bool) : Int := if b then 0 else 1

theorem confWithin_still (n f t : Int) (w : World) :
    Calls Tryz.prog 58 #[.int .i64 n, .int .i64 f, .int .i64 t] w fun e w' => e = .returned (.bool (wiB n f t)) ∧ w' = w := (confWithin_any n f t w).mono fun _ _ h => ⟨h.1, h.2.symm⟩
theorem divides_still (p n : Int) (w : World) :
    Calls Tryz.prog 59 #[.int .i64 p, .int .i64 n] w fun e w' => e = .returned (.bool (dvB p n)) ∧ w' = w := (divides_any p n w).mono fun _ _ h => ⟨h.1, h.2.symm⟩

theorem all_13 {b0 b1 b2 b3 b4 b5 b6 b7 b8 b9 b10 b11 b12 r : Bool} (hr : [b0, b1, b2, b3, b4, b5, b6, b7, b8, b9, b10, b11, b12].all id = r) (b : Nat) (t : TypeId) (w : World) (h : Blk w b #[.bool b0, .bool b1, .bool b2, .bool b3, .bool b4, .bool b5, .bool b6, .bool b7, .bool b8, .bool b9, .bool b10, .bool b11, .bool b12] t) :
    Calls Tryz.prog 57 #[.slice (some ⟨b, 0, none⟩) 13 13] w fun e w' => e = .returned (.bool r) ∧ w = w' := by
  subst hr
  exact all_any [b0, b1, b2, b3, b4, b5, b6, b7, b8, b9, b10, b11, b12] b t w (by simp) h

set_option maxHeartbeats 4000000 in
set_option maxRecDepth 100000 in
theorem check_any (ha nu ps pz cd bf st tn lg mi ma na ja : Int) (w : World) :
    Calls Tryz.prog 17 #[cfV ha nu ps pz cd bf st tn lg mi ma na ja] w fun e w' => e = .returned (.int .i64 (errI (mayB ha nu ps pz cd bf st tn lg mi ma na ja))) ∧ Below w.heap.size w w' := by
  obtain ⟨m, hm⟩ : ∃ m, (if IntKind.i64.wrap (nu - 2) < 64 then IntKind.i64.wrap (nu - 2) else 64) = m := ⟨_, rfl⟩
  obtain ⟨r, hr⟩ : ∃ r, mayB ha nu ps pz cd bf st tn lg mi ma na ja = r := ⟨_, rfl⟩
  rw [hr]
  unfold mayB cnds at hr
  rw [hm] at hr
  have HR := Lib.hid hr
  clear hr
  have hk := Blk.new w #[.int .i64 ha, .int .i64 nu, .int .i64 ps, .int .i64 pz, .int .i64 cd, .int .i64 bf, .int .i64 st, .int .i64 tn, .int .i64 lg, .int .i64 mi, .int .i64 ma, .int .i64 na, .int .i64 ja] 23
  have hb : Below w.heap.size w (w.alloc (.cells #[.int .i64 ha, .int .i64 nu, .int .i64 ps, .int .i64 pz, .int .i64 cd, .int .i64 bf, .int .i64 st, .int .i64 tn, .int .i64 lg, .int .i64 mi, .int .i64 ma, .int .i64 na, .int .i64 ja] 23)) := (Below.refl _ _).alloc (Nat.le_refl _) _
  have HK := Lib.hid hk
  have HB := Lib.hid hb
  clear hk hb
  go_enter Tryz.func17, Tryz.ntmps17
  go_wp2_with fail
  generalize w.alloc (.cells #[.int .i64 ha, .int .i64 nu, .int .i64 ps, .int .i64 pz, .int .i64 cd, .int .i64 bf, .int .i64 st, .int .i64 tn, .int .i64 lg, .int .i64 mi, .int .i64 ma, .int .i64 na, .int .i64 ja] 23) = W at HK HB ⊢
  obtain ⟨c0, c1, c2, c3, c4, c5, c6, c7, c8, c9, c10, c11, c12⟩ := HK.out.thirteen
  go_still_tail 49, (by kernel_rfl)
  repeat (first | still_step | still_call (confWithin_still _ _ _ _) | still_call (divides_still _ _ _))
  refine wpStill_nil ?_
  change wpList _ _ _ _ _ W.drew
  clear c0 c1 c2 c3 c4 c5 c6 c7 c8 c9 c10 c11 c12
  go_wp2_with fail
  refine (all_13 HR.out _ _ _ (Blk.new _ _ _).drew).mono ?_
  rintro e w' ⟨rfl, rfl⟩
  cases r
  · go_wp2
    go_ret
    exact ⟨rfl, (HB.out.alloc HB.out.size _).drew⟩
  · go_wp2
    go_ret
    exact ⟨rfl, (HB.out.alloc HB.out.size _).drew⟩
end Go.Proofs.YthmhehehomieiaaGreat

/- What it is that a configuration may be made; contracts of Half, Mature, Words and Most. -/
namespace Go.Proofs.YthmhehehomieiaaGreat
open Go.RowKit

theorem wiB_iff (n f t : Int) : wiB n f t = true ↔ f ≤ n ∧ n ≤ t := by simp [wiB]
theorem dvB_iff (p n : Int) : dvB p n = true ↔ 1 ≤ p ∧ n.tmod p = 0 := by simp [dvB]

theorem wrap_in (x : Int) (h0 : -9223372036854775808 ≤ x) (h1 : x ≤ 9223372036854775807) : IntKind.i64.wrap x = x := by
  rw [IntKind.wrap_i64]
  omega

theorem retI {k : IntKind} {a b : Int} (h : a = b) : Ending.returned (.int k a) = .returned (.int k b) := by rw [h]

/-- What the document asks of a configuration. -/
structure May (ha nu ps pz cd bf st tn lg mi ma na ja : Int) : Prop where
  ha0 : 1 ≤ ha
  ha1 : ha ≤ 64
  nu0 : 8 ≤ nu
  nu1 : nu ≤ 4096
  ps0 : 0 ≤ ps
  ps1 : ps ≤ 64
  pz0 : 16 ≤ pz
  pz1 : pz ≤ 256
  cd0 : 1 ≤ cd
  cd1 : pz.tmod cd = 0
  bf0 : 0 ≤ bf
  bf1 : bf ≤ 256
  st0 : 1 ≤ st
  st1 : st ≤ 256
  tn0 : 1 ≤ tn
  tn1 : tn ≤ 7
  lg0 : 0 ≤ lg
  lg1 : lg ≤ 64
  lg2 : lg ≤ nu - 2
  mi0 : 0 ≤ mi
  mi1 : mi ≤ 64
  ma0 : 0 ≤ ma
  ma1 : ma ≤ 64
  na0 : 0 ≤ na
  na1 : na ≤ nu
  ja0 : 0 ≤ ja
  ja1 : ja ≤ ps

theorem mayB_iff (ha nu ps pz cd bf st tn lg mi ma na ja : Int) : mayB ha nu ps pz cd bf st tn lg mi ma na ja = true ↔ May ha nu ps pz cd bf st tn lg mi ma na ja := by
  unfold mayB cnds
  simp only [List.all_cons, List.all_nil, id_eq, Bool.and_true, Bool.and_eq_true, wiB_iff, dvB_iff]
  constructor
  · rintro ⟨h1, h2, h3, h4, h5, h6, h7, h8, h9, h10, h11, h12, h13⟩
    rw [wrap_in (nu - 2) (by omega) (by omega)] at h9
    obtain ⟨g0, g1⟩ := h9
    have g2 : lg ≤ 64 ∧ lg ≤ nu - 2 := by split at g1 <;> omega
    exact ⟨h1.1, h1.2, h2.1, h2.2, h3.1, h3.2, h4.1, h4.2, h5.1, h5.2, h6.1, h6.2, h7.1, h7.2, h8.1, h8.2, g0, g2.1, g2.2, h10.1, h10.2, h11.1, h11.2, h12.1, h12.2, h13.1, h13.2⟩
  · intro h
    rw [wrap_in (nu - 2) (by have := h.nu0; omega) (by have := h.nu1; omega)]
    refine ⟨⟨h.ha0, h.ha1⟩, ⟨h.nu0, h.nu1⟩, ⟨h.ps0, h.ps1⟩, ⟨h.pz0, h.pz1⟩, ⟨h.cd0, h.cd1⟩, ⟨h.bf0, h.bf1⟩, ⟨h.st0, h.st1⟩, ⟨h.tn0, h.tn1⟩, ⟨h.lg0, ?_⟩, ⟨h.mi0, h.mi1⟩, ⟨h.ma0, h.ma1⟩, ⟨h.na0, h.na1⟩, ⟨h.ja0, h.ja1⟩⟩
    have := h.lg1
    have := h.lg2
    split <;> omega

def halfI (nu n : Int) : Int := if n % 2 = 1 then 1 + nu else 1

theorem and_one (n : Int) : bits .and .i64 n 1 = n % 2 := by
  show IntKind.i64.wrap ((BitVec.ofInt 64 n &&& BitVec.ofInt 64 1).toNat : Int) = _
  rw [BitVec.toNat_and, BitVec.toNat_ofInt, show (BitVec.ofInt 64 1).toNat = 1 from rfl, Nat.and_one_is_mod, IntKind.wrap_i64]
  omega

set_option maxHeartbeats 1000000 in
theorem half_any (ha nu ps pz cd bf st tn lg mi ma na ja n : Int) (w : World) (nu0 : 8 ≤ nu) (nu1 : nu ≤ 4096) :
    Calls Tryz.prog 63 #[cfV ha nu ps pz cd bf st tn lg mi ma na ja, .int .i64 n] w fun e w' => e = .returned (.int .i64 (halfI nu n)) ∧ Below w.heap.size w w' := by
  have ha := and_one n
  unfold halfI
  by_cases h : n % 2 = 1
  · rw [if_pos h]
    rw [h] at ha
    clear h
    go_enter Tryz.func63, Tryz.ntmps63
    go_wp2
    go_ret
    exact ⟨rfl, (Below.refl _ _).alloc (Nat.le_refl _) _⟩
  · rw [if_neg h]
    obtain h : n % 2 = 0 := by omega
    rw [h] at ha
    clear h
    go_enter Tryz.func63, Tryz.ntmps63
    go_wp2
    go_ret
    exact ⟨rfl, (Below.refl _ _).alloc (Nat.le_refl _) _⟩

set_option maxHeartbeats 1000000 in
theorem mature_any (ha nu ps pz cd bf st tn lg mi ma na ja : Int) (w : World) (nu0 : 8 ≤ nu) (nu1 : nu ≤ 4096) :
    Calls Tryz.prog 60 #[cfV ha nu ps pz cd bf st tn lg mi ma na ja] w fun e w' => e = .returned (.int .i64 (1 + 2 * nu)) ∧ Below w.heap.size w w' := by
  go_enter Tryz.func60, Tryz.ntmps60
  go_wp2
  go_ret
  exact ⟨rfl, (Below.refl _ _).alloc (Nat.le_refl _) _⟩

theorem mul_in {a b A B : Int} (a0 : 0 ≤ a) (b0 : 0 ≤ b) (ha : a ≤ A) (hb : b ≤ B) : 0 ≤ a * b ∧ a * b ≤ A * B :=
  ⟨Int.mul_nonneg a0 b0, Int.mul_le_mul ha hb b0 (by omega)⟩

set_option maxHeartbeats 1000000 in
theorem words_any (ha nu ps pz cd bf st tn lg mi ma na ja : Int) (w : World) (h : May ha nu ps pz cd bf st tn lg mi ma na ja) :
    Calls Tryz.prog 23 #[cfV ha nu ps pz cd bf st tn lg mi ma na ja] w fun e w' => e = .returned (.int .i64 (1 + 2 * nu + ps * pz)) ∧ Below w.heap.size w w' := by
  have n0 := h.nu0
  have n1 := h.nu1
  obtain ⟨m0, m1⟩ := mul_in h.ps0 (by have := h.pz0; omega) h.ps1 h.pz1
  clear h
  have hk := Blk.new w #[.int .i64 ha, .int .i64 nu, .int .i64 ps, .int .i64 pz, .int .i64 cd, .int .i64 bf, .int .i64 st, .int .i64 tn, .int .i64 lg, .int .i64 mi, .int .i64 ma, .int .i64 na, .int .i64 ja] 23
  have hb : Below w.heap.size w (w.alloc (.cells #[.int .i64 ha, .int .i64 nu, .int .i64 ps, .int .i64 pz, .int .i64 cd, .int .i64 bf, .int .i64 st, .int .i64 tn, .int .i64 lg, .int .i64 mi, .int .i64 ma, .int .i64 na, .int .i64 ja] 23)) := (Below.refl _ _).alloc (Nat.le_refl _) _
  have HK := Lib.hid hk
  have HB := Lib.hid hb
  clear hk hb
  go_enter Tryz.func23, Tryz.ntmps23
  go_wp2_with fail
  generalize w.alloc (.cells #[.int .i64 ha, .int .i64 nu, .int .i64 ps, .int .i64 pz, .int .i64 cd, .int .i64 bf, .int .i64 st, .int .i64 tn, .int .i64 lg, .int .i64 mi, .int .i64 ma, .int .i64 na, .int .i64 ja] 23) = W at HK HB ⊢
  go_region_held3 (fun w' => w'.cell? ⟨w.heap.size, 0, none⟩ = some (.int .i64 ha) ∧ w'.cell? ⟨w.heap.size, 1, none⟩ = some (.int .i64 nu) ∧ w'.cell? ⟨w.heap.size, 2, none⟩ = some (.int .i64 ps) ∧ w'.cell? ⟨w.heap.size, 3, none⟩ = some (.int .i64 pz) ∧ w'.cell? ⟨w.heap.size, 4, none⟩ = some (.int .i64 cd) ∧ w'.cell? ⟨w.heap.size, 5, none⟩ = some (.int .i64 bf) ∧ w'.cell? ⟨w.heap.size, 6, none⟩ = some (.int .i64 st) ∧ w'.cell? ⟨w.heap.size, 7, none⟩ = some (.int .i64 tn) ∧ w'.cell? ⟨w.heap.size, 8, none⟩ = some (.int .i64 lg) ∧ w'.cell? ⟨w.heap.size, 9, none⟩ = some (.int .i64 mi) ∧ w'.cell? ⟨w.heap.size, 10, none⟩ = some (.int .i64 ma) ∧ w'.cell? ⟨w.heap.size, 11, none⟩ = some (.int .i64 na) ∧ w'.cell? ⟨w.heap.size, 12, none⟩ = some (.int .i64 ja)) (first | exact HK.out.drew.thirteen | exact (HK.out.drew.keep b1).thirteen) (first
    | (go_at_call 60; refine (mature_any _ _ _ _ _ _ _ _ _ _ _ _ _ _ n0 n1).mono ?_; rintro e w1 ⟨rfl, b1⟩))
  all_goals
    go_wp2
    go_ret
    exact ⟨retI (by rw [wrap_in (ps * pz) (by omega) (by omega), wrap_in _ (by omega) (by omega)]), below_trans HB.out.drew b1⟩

def clI (f lg : Int) : Int := if f < 0 then 0 else if lg < f then lg else f

def mostI (ha nu pz st lg mi ma f : Int) : Int := (((clI f lg + 2) * (mi + ma) + 8) * pz + (ha + st + 4 * nu)) * (lg + 4) * (2 * lg + 24)

theorem clI_in (f lg : Int) (h : 0 ≤ lg) : 0 ≤ clI f lg ∧ clI f lg ≤ lg := by
  unfold clI
  split
  · omega
  · split <;> omega

theorem most_in {ha nu pz st lg mi ma c : Int} (c0 : 0 ≤ c) (c1 : c ≤ 64) (mi0 : 0 ≤ mi) (mi1 : mi ≤ 64) (ma0 : 0 ≤ ma) (ma1 : ma ≤ 64) (pz0 : 16 ≤ pz) (pz1 : pz ≤ 256) (lg0 : 0 ≤ lg) (lg1 : lg ≤ 64)
    (ha0 : 1 ≤ ha) (ha1 : ha ≤ 64) (st0 : 1 ≤ st) (st1 : st ≤ 256) (nu0 : 8 ≤ nu) (nu1 : nu ≤ 4096) :
    (0 ≤ (c + 2) * (mi + ma) ∧ (c + 2) * (mi + ma) ≤ 8448) ∧ (128 ≤ ((c + 2) * (mi + ma) + 8) * pz ∧ ((c + 2) * (mi + ma) + 8) * pz ≤ 2164736) ∧
    (4 ≤ (((c + 2) * (mi + ma) + 8) * pz + (ha + st + 4 * nu)) * (lg + 4) ∧ (((c + 2) * (mi + ma) + 8) * pz + (ha + st + 4 * nu)) * (lg + 4) ≤ 148337920) ∧
    (0 < (((c + 2) * (mi + ma) + 8) * pz + (ha + st + 4 * nu)) * (lg + 4) * (2 * lg + 24) ∧ (((c + 2) * (mi + ma) + 8) * pz + (ha + st + 4 * nu)) * (lg + 4) * (2 * lg + 24) ≤ 22547363840) := by
  have p1 := mul_in (a := c + 2) (b := mi + ma) (A := 66) (B := 128) (by omega) (by omega) (by omega) (by omega)
  generalize (c + 2) * (mi + ma) = x1 at *
  have p2 := mul_in (a := x1 + 8) (b := pz) (A := 8456) (B := 256) (by omega) (by omega) (by omega) (by omega)
  have q2 : 8 * 16 ≤ (x1 + 8) * pz := Int.mul_le_mul (by omega) (by omega) (by omega) (by omega)
  generalize (x1 + 8) * pz = x2 at *
  have p3 := mul_in (a := x2 + (ha + st + 4 * nu)) (b := lg + 4) (A := 2181440) (B := 68) (by omega) (by omega) (by omega) (by omega)
  have q3 : 1 * 4 ≤ (x2 + (ha + st + 4 * nu)) * (lg + 4) := Int.mul_le_mul (by omega) (by omega) (by omega) (by omega)
  generalize (x2 + (ha + st + 4 * nu)) * (lg + 4) = x3 at *
  have p4 := mul_in (a := x3) (b := 2 * lg + 24) (A := 148337920) (B := 152) (by omega) (by omega) (by omega) (by omega)
  have q4 : 1 * 1 ≤ x3 * (2 * lg + 24) := Int.mul_le_mul (by omega) (by omega) (by omega) (by omega)
  generalize x3 * (2 * lg + 24) = x4 at *
  omega

end Go.Proofs.YthmhehehomieiaaGreat

/- A heap's parts in memory: the core's own block, its arena, its halves, its pages, what is noted, its stack, its table, its row; each lies in blocks of its own. -/
namespace Go.Proofs.YthmhehehomieiaaGreat
open Go.RowKit

/-- How a heap is made. -/
structure Cfg where
  (ha nu ps pz cd bf st tn lg mi ma na ja : Int)
abbrev Cfg.v (c : Cfg) : Value := cfV c.ha c.nu c.ps c.pz c.cd c.bf c.st c.tn c.lg c.mi c.ma c.na c.ja
abbrev Cfg.May (c : Cfg) : Prop := Proofs.YthmhehehomieiaaGreat.May c.ha c.nu c.ps c.pz c.cd c.bf c.st c.tn c.lg c.mi c.ma c.na c.ja

/-- What a heap has done. -/
structure Dn where
  (al wd pr mi ma yo ol fr : Int)

/-- Where a core's parts begin. -/
structure Pts where
  (a y o r g t : Nat)

/-- What a core holds; where its parts begin, which no call changes. -/
structure Co where
  cf : Cfg
  ws : List Int
  yn : Bool
  yu : Int
  yv : Int
  pgs : List Pg
  ps : List Bool
  rx : List Int
  rm : List Bool
  ry : List Int
  rn : List Bool
  gl : Bool
  gx : List Int
  hs : List Int
  par : Int
  ph : Int
  mv : Bool
  scan : Int
  cop : Int
  look : Int
  row : List Int
  wi : List Bool
  d : Dn
  pt : Pts

def Co.wrote (s : Co) (vs : List Int) : Co := { s with ws := vs }
def Co.halves (s : Co) (n : Bool) (u v : Int) : Co := { s with yn := n, yu := u, yv := v }
/-- Where something of n words stands from a on: it begins at a, nothing begins behind. -/
def wiS (wi : List Bool) (a : Nat) : Nat → List Bool
  | 0 => wi
  | n + 1 => (wiS wi a n).set (a + n) (decide (0 < n))
theorem wiS_len {wi : List Bool} {a : Nat} : ∀ n, (wiS wi a n).length = wi.length
  | 0 => rfl
  | n + 1 => by unfold wiS; rw [List.length_set, wiS_len n]
theorem wiS_far {wi : List Bool} {a i : Nat} (h : i < a) : ∀ n, (wiS wi a n)[i]? = wi[i]?
  | 0 => rfl
  | n + 1 => by unfold wiS; rw [List.getElem?_set_ne (by omega), wiS_far h n]
theorem wiS_past {wi : List Bool} {a i : Nat} : ∀ n, a + n ≤ i → (wiS wi a n)[i]? = wi[i]?
  | 0, _ => rfl
  | n + 1, h => by unfold wiS; rw [List.getElem?_set_ne (by omega), wiS_past n (by omega)]
theorem wiS_at {wi : List Bool} {a : Nat} (h : a < wi.length) : ∀ n, (wiS wi a (n + 1))[a]? = some false
  | 0 => by unfold wiS wiS; rw [Nat.add_zero, List.getElem?_set_self h]; rfl
  | n + 1 => by unfold wiS; rw [List.getElem?_set_ne (by omega)]; exact wiS_at h n

def Co.filled (s : Co) (k : Int) : Co := { s with yu := s.yu + k }
def Co.took (s : Co) (k : Int) : Co := { s with yu := s.yu + k, wi := wiS s.wi (hAt s.cf.nu 1 s.yn + s.yu).toNat k.toNat }
def Co.put (s : Co) (xs : List Int) : Co := { s with hs := xs }
def Co.did (s : Co) (x y : Int) : Co := { s with d := { s.d with al := x, wd := y } }

/-- Where a core's parts lie. -/
structure Pos where
  (b a y o r g t : Nat)
  rA : Option Addr
  rc : Nat
  wb : Nat
def Pos.pts (P : Pos) : Pts := ⟨P.a, P.y, P.o, P.r, P.g, P.t⟩

def coL (P : Pos) (s : Co) : Array Value :=
  #[.int .i64 s.cf.ha, .int .i64 s.cf.nu, .int .i64 s.cf.ps, .int .i64 s.cf.pz, .int .i64 s.cf.cd, .int .i64 s.cf.bf, .int .i64 s.cf.st, .int .i64 s.cf.tn, .int .i64 s.cf.lg, .int .i64 s.cf.mi, .int .i64 s.cf.ma, .int .i64 s.cf.na, .int .i64 s.cf.ja,
    arP P.a, bpP P.y, spP P.o, ptr P.r, grP P.g, htP P.t, .int .i64 s.par, .int .i64 s.ph, .bool s.mv, .int .i64 s.scan, .int .i64 s.cop, .int .i64 s.look, .slice P.rA s.row.length P.rc,
    .int .i64 s.d.al, .int .i64 s.d.wd, .int .i64 s.d.pr, .int .i64 s.d.mi, .int .i64 s.d.ma, .int .i64 s.d.yo, .int .i64 s.d.ol, .int .i64 s.d.fr, .slice (some ⟨P.wb, 0, none⟩) (1 + 2 * s.cf.nu).toNat (1 + 2 * s.cf.nu).toNat]

/-- Part number j lies in blocks of O. -/
def Prt (P : Pos) (s : Co) (w : World) (O : Nat → Prop) : Nat → Prop
  | 0 => Blk w P.b (coL P s) 42 ∧ O P.b
  | 1 => ∃ ab, Has w P.a ab s.ws ∧ O P.a ∧ O ab
  | 2 => IsBp w P.y s.cf.nu 1 s.yn s.yu s.yv ∧ O P.y
  | 3 => ∃ pb ub, IsSp w P.o pb ub (1 + 2 * s.cf.nu) s.cf.pz s.pgs s.ps ∧ ∀ k, SpS P.o pb ub s.pgs k → O k
  | 4 => ∃ p, IsSet w P.r p s.cf.bf (1 + 2 * s.cf.nu) (s.cf.ps * s.cf.pz) s.cf.cd s.rx s.rm s.ry s.rn ∧ ∀ k, p.own P.r k → O k
  | 5 => ∃ A c, IsGr w P.g s.cf.st s.gl A s.gx.length c s.gx ∧ O P.g ∧ ∀ k, blkOf A = some k → O k
  | 6 => ∃ tg, IsHt w P.t tg s.hs ∧ O P.t ∧ O tg
  | 7 => Qu w P.rA s.row.length P.rc s.row ∧ ∀ k, blkOf P.rA = some k → O k
  | 8 => Blk w P.wb (s.wi.map Value.bool).toArray 4 ∧ s.wi.length = (1 + 2 * s.cf.nu).toNat ∧ O P.wb
  | _ => True

structure IsCo (w : World) (P : Pos) (own : Nat → Nat → Prop) (s : Co) : Prop where
  prt : ∀ j, Prt P s w (own j) j
  lt : ∀ j k, own j k → k < w.heap.size
  ap : ∀ i j k, own i k → own j k → i = j
  may : s.cf.May
  wl : s.ws.length ≤ 1048576
  pts : s.pt = P.pts

/-- Block b is a core that holds s; it and its parts lie in blocks of S. -/
def Cr (w : World) (b : Nat) (S : Nat → Prop) (s : Co) : Prop := ∃ P own, IsCo w P own s ∧ P.b = b ∧ S = fun k => ∃ j, own j k

/-- Behind a call it holds s'. -/
def CoR (w : World) (b : Nat) (S : Nat → Prop) (s' : Co) (w' : World) : Prop := ∃ S', Cr w' b S' s' ∧ Mv S S' w w'

theorem Prt.frm {P : Pos} {s : Co} {w w' : World} {O T : Nat → Prop} {j : Nat} (h : Prt P s w O j) (f : Frm T w w') (dis : ∀ k, O k → ¬ T k) : Prt P s w' O j := by
  match j, h with
  | 0, ⟨h, o⟩ => exact ⟨h.frm f (dis _ o), o⟩
  | 1, ⟨ab, h, o1, o2⟩ => exact ⟨ab, ⟨h.choose, h.choose_spec.frm f (dis _ o1) (dis _ o2)⟩, o1, o2⟩
  | 2, ⟨h, o⟩ => exact ⟨h.frm f (dis _ o), o⟩
  | 3, ⟨pb, ub, h, o⟩ => exact ⟨pb, ub, h.stay fun k hk => f.block k (h.lt k hk) (dis _ (o k hk)), o⟩
  | 4, ⟨p, h, o⟩ => exact ⟨p, h.frm f fun k hk => dis _ (o k hk), o⟩
  | 5, ⟨A, c, h, o1, o2⟩ => exact ⟨A, c, h.frm f (dis _ o1) fun k hk => dis _ (o2 k hk), o1, o2⟩
  | 6, ⟨tg, h, o1, o2⟩ => exact ⟨tg, h.frm f (dis _ o1) (dis _ o2), o1, o2⟩
  | 7, ⟨h, o⟩ => exact ⟨h.frm f fun k hk => dis _ (o k hk), o⟩
  | 8, ⟨h, l, o⟩ => exact ⟨h.frm f (dis _ o), l, o⟩
  | _ + 9, _ => exact trivial

section
variable {w w' : World} {P P' : Pos} {own : Nat → Nat → Prop} {s s' : Co} {b : Nat} {S : Nat → Prop}

theorem IsCo.frm {T : Nat → Prop} (h : IsCo w P own s) (f : Frm T w w') (dis : ∀ j k, own j k → ¬ T k) : IsCo w' P own s :=
  { h with
    prt := fun j => (h.prt j).frm f (dis j)
    lt := fun j k hk => Nat.lt_of_lt_of_le (h.lt j k hk) f.size }
theorem Cr.lt (h : Cr w b S s) {k : Nat} (hk : S k) : k < w.heap.size := by
  obtain ⟨P, own, h, rfl, rfl⟩ := h
  exact h.lt _ k hk.choose_spec
theorem Cr.frm {T : Nat → Prop} (h : Cr w b S s) (f : Frm T w w') (dis : ∀ k, S k → ¬ T k) : Cr w' b S s := by
  obtain ⟨P, own, h, rfl, rfl⟩ := h
  exact ⟨P, own, h.frm f fun j k hk => dis k ⟨j, hk⟩, rfl, rfl⟩
theorem Cr.keep (h : Cr w b S s) (f : Below w.heap.size w w') : Cr w' b S s := h.frm (T := fun _ => False) (Frm.of_below f) fun _ _ e => e
theorem Cr.stay (h : Cr w b S s) (f : Below w.heap.size w w') : CoR w b S s w' := ⟨S, h.keep f, Mv.of_below f⟩
theorem Cr.same (h : Cr w b S s) : CoR w b S s w := ⟨S, h, Mv.of_below (Below.refl _ _)⟩
theorem CoR.pre {w1 : World} (f : Below w.heap.size w w1) (h : CoR w1 b S s w') : CoR w b S s w' := ⟨h.choose, h.choose_spec.1, h.choose_spec.2.pre f⟩
theorem CoR.post {w1 : World} (h : CoR w b S s w1) (f : Below w1.heap.size w1 w') : CoR w b S s w' := ⟨h.choose, h.choose_spec.1.keep f, h.choose_spec.2.post f⟩
theorem Cr.may (h : Cr w b S s) : s.cf.May := by
  obtain ⟨P, own, h, _, _⟩ := h
  exact h.may
theorem Cr.wl (h : Cr w b S s) : s.ws.length ≤ 1048576 := by
  obtain ⟨P, own, h, _, _⟩ := h
  exact h.wl
theorem Cr.few (h : Cr w b S s) : s.hs.length ≤ 64 := by
  obtain ⟨P, own, h, _, _⟩ := h
  obtain ⟨tg, ht, _⟩ := h.prt 6
  exact ht.few

/-- Part number j has turned. -/
theorem IsCo.turn (h : IsCo w P own s) (j : Nat) {O' : Nat → Prop} (f : Frm (own j) w w') (hp : Prt P' s' w' O' j) (at_ : ∀ k, O' k → own j k ∨ w.heap.size ≤ k) (lt' : ∀ k, O' k → k < w'.heap.size)
    (same : ∀ i, i ≠ j → ∀ v O, Prt P s v O i → Prt P' s' v O i) (hb : P'.b = P.b) (hcf : s'.cf = s.cf) (hwl : s'.ws.length = s.ws.length) (hpt : s'.pt = s.pt := by rfl) (hP : P'.pts = P.pts := by rfl) : CoR w P.b (fun k => ∃ j, own j k) s' w' := by
  have sp : ∀ i k, (if i = j then O' k else own i k) → own i k ∨ (i = j ∧ w.heap.size ≤ k) := fun i k hk => by
    by_cases e : i = j
    · subst e; rw [if_pos rfl] at hk; exact (at_ k hk).imp id fun h => ⟨rfl, h⟩
    · rw [if_neg e] at hk; exact .inl hk
  refine ⟨_, ⟨P', fun i k => if i = j then O' k else own i k, ⟨fun i => ?_, fun i k hk => ?_, fun i i' k hk hk' => ?_, by rw [hcf]; exact h.may, by rw [hwl]; exact h.wl, (hpt.trans h.pts).trans hP.symm⟩, hb, rfl⟩, f.mono fun k _ hk => ⟨j, hk⟩, fun k hk => ?_⟩
  · by_cases e : i = j
    · subst e
      simpa using hp
    · have := (h.prt i).frm f fun k hk hk' => e (h.ap _ _ k hk hk')
      simpa [e] using same i e w' _ this
  · by_cases e : i = j
    · subst e; rw [if_pos rfl] at hk; exact lt' k hk
    · rw [if_neg e] at hk; exact Nat.lt_of_lt_of_le (h.lt i k hk) f.size
  · rcases sp i k hk with h1 | ⟨e1, h1⟩
    · rcases sp i' k hk' with h2 | ⟨e2, h2⟩
      · exact h.ap _ _ k h1 h2
      · have := h.lt _ _ h1; omega
    · rcases sp i' k hk' with h2 | ⟨e2, h2⟩
      · have := h.lt _ _ h2; omega
      · omega
  · obtain ⟨i, hk⟩ := hk
    exact (sp i k hk).imp (fun h => ⟨i, h⟩) fun h => h.2

theorem Has.ltw {w : World} {a b : Nat} {ws : List Int} (h : Has w a b ws) : a < w.heap.size ∧ b < w.heap.size := ⟨h.choose_spec.ltA, h.choose_spec.ltB⟩

/-- The arena has turned. -/
theorem IsCo.arena (h : IsCo w P own s) {ab : Nat} {vs : List Int} (oa : own 1 P.a) (ob : own 1 ab) (n : Now P.a ab vs w w') (hl : vs.length = s.ws.length) : CoR w P.b (fun k => ∃ j, own j k) (s.wrote vs) w' := by
  refine h.turn 1 (P' := P) (O' := fun k => k = P.a ∨ k = ab) (n.frm.mono ?_) ⟨ab, n.is, .inl rfl, .inr rfl⟩ ?_ ?_ ?_ rfl rfl hl
  · rintro k _ (rfl | rfl) <;> assumption
  · rintro k (rfl | rfl)
    · exact .inl oa
    · exact .inl ob
  · rintro k (rfl | rfl)
    · exact n.is.ltw.1
    · exact n.is.ltw.2
  · intro i hi v O hp
    rcases i with _ | _ | _ | _ | _ | _ | _ | _ | _ | i <;> first | exact absurd rfl hi | exact hp
end
end Go.Proofs.YthmhehehomieiaaGreat

/- Contracts of the core's small functions: handle, held, young, old, leaving, Now, Move, Mark, Note where no cycle goes on; of none. -/
namespace Go.Proofs.YthmhehehomieiaaGreat
open Go.RowKit

def Co.has (s : Co) (h : Int) : Bool := decide (0 ≤ h) && decide (h < s.hs.length)
def Co.at_ (s : Co) (h : Int) : Int := if s.has h = true then s.hs.getD h.toNat 0 else 0
def Co.hE (s : Co) (h : Int) : Int := if s.has h = true then 0 else 3

theorem Co.has_yes {s : Co} {h : Int} (e : s.has h = true) : ∃ i : Nat, h = i ∧ i < s.hs.length ∧ s.hs[i]? = some (s.at_ h) ∧ s.hE h = 0 := by
  have e' := e
  unfold Co.has at e'
  rw [Bool.and_eq_true, decide_eq_true_eq, decide_eq_true_eq] at e'
  refine ⟨h.toNat, by omega, by omega, ?_, ?_⟩
  · unfold Co.at_
    rw [if_pos e, List.getD_eq_getElem?_getD, List.getElem?_eq_getElem (show h.toNat < s.hs.length by omega)]
    rfl
  · unfold Co.hE
    rw [if_pos e]
theorem Co.hE_yes {s : Co} {h : Int} (e : s.has h = true) : s.hE h = 0 := by unfold Co.hE; rw [if_pos e]
theorem Co.has_no {s : Co} {h : Int} (e : s.has h = false) : (h < 0 ∨ (s.hs.length : Int) ≤ h) ∧ s.at_ h = 0 ∧ s.hE h = 3 := by
  have e' := e
  unfold Co.has at e'
  rw [Bool.and_eq_false_iff, decide_eq_false_iff_not, decide_eq_false_iff_not] at e'
  refine ⟨by omega, ?_, ?_⟩
  · unfold Co.at_; rw [if_neg (by rw [e]; exact Bool.false_ne_true)]
  · unfold Co.hE; rw [if_neg (by rw [e]; exact Bool.false_ne_true)]

section
variable {w : World} {b : Nat} {S : Nat → Prop} {s : Co}

/-- The core's own cells. -/
theorem IsCo.cell {P : Pos} {own : Nat → Nat → Prop} (h : IsCo w P own s) (i : Nat) : w.cell? ⟨P.b, i, none⟩ = (coL P s)[i]? := (h.prt 0).1.cell i
theorem IsCo.frozen {P : Pos} {own : Nat → Nat → Prop} (h : IsCo w P own s) (i : Nat) : w.frozen? ⟨P.b, i, none⟩ = false := (h.prt 0).1.frozen i

set_option maxHeartbeats 1000000 in
theorem handle_any (hC : Cr w b S s) (h : Int) :
    Calls Tryz.prog 85 #[ptr b, .int .i64 h] w fun e w' => e = .returned (.tuple #[.int .i64 (s.at_ h), .int .i64 (s.hE h)]) ∧ w = w' := by
  obtain ⟨P, own, h0, rfl, rfl⟩ := hC
  have c18 : w.cell? ⟨P.b, 18, none⟩ = some (htP P.t) := h0.cell 18
  obtain ⟨tg, ht, _, _⟩ := h0.prt 6
  have HT := Lib.hid ht
  clear h0 ht
  cases e : s.has h
  · obtain ⟨e1, e2, e3⟩ := Co.has_no e
    rw [e2, e3]
    have E1 := Lib.hid e1
    clear e e1 e2 e3
    go_enter Tryz.func85, Tryz.ntmps85
    go_wp2_with fail
    refine (tbGet_no _ _ _ _ _ HT.out E1.out).mono ?_
    rintro e w1 ⟨rfl, rfl⟩
    go_wp2
    go_ret2
    exact ⟨rfl, rfl⟩
  · obtain ⟨i, rfl, hi, hx, e3⟩ := Co.has_yes e
    rw [e3]
    have HX := Lib.hid hx
    clear e e3 hx hi
    generalize s.at_ i = x at *
    go_enter Tryz.func85, Tryz.ntmps85
    go_wp2_with fail
    refine (tbGet_yes _ _ _ _ _ HT.out i HX.out).mono ?_
    rintro e w1 ⟨rfl, rfl⟩
    go_wp2
    go_ret2
    exact ⟨rfl, rfl⟩

set_option maxHeartbeats 400000 in
theorem handle_none (h : Int) (w : World) :
    Calls Tryz.prog 85 #[.pointer none, .int .i64 h] w fun e w' => e = .returned (.tuple #[.int .i64 0, .int .i64 1]) ∧ w = w' := by
  go_enter Tryz.func85, Tryz.ntmps85
  go_wp2
  go_ret2
  exact ⟨rfl, rfl⟩

abbrev hdO : Obj := .cells #[.int .i64 0, .int .i64 0, .int .i64 0, .int .i64 0, .bool false, .bool false, .bool false] 93

set_option maxHeartbeats 2000000 in
set_option maxRecDepth 100000 in
theorem held_none (h : Int) (w : World) :
    Calls Tryz.prog 89 #[.pointer none, .int .i64 h] w fun e w' => e = .returned (.tuple #[.int .i64 0, noV, .int .i64 1]) ∧ Below w.heap.size w w' := by
  go_enter Tryz.func89, Tryz.ntmps89
  go_wp2_with fail
  refine (handle_none _ _).mono ?_
  rintro e w1 ⟨rfl, rfl⟩
  go_wp2
  exact bodyPost_ret (v := .tuple #[.int .i64 0, noV, .int .i64 1]) (by simp [results, Tryz.results89, go_sem]) rfl ⟨rfl, (Below.refl _ _).alloc (Nat.le_refl _) _⟩

/-- What was made on the way, and is none of its blocks, has been written to. -/
theorem CoR.own {T : Nat → Prop} {u w1 w2 : World} (r : CoR w b S s w1) (b0 : Below u.heap.size u w) (f : Frm T w1 w2) (hT : ∀ k, T k → u.heap.size ≤ k ∧ k < w.heap.size ∧ ¬ S k) : CoR u b S s w2 := by
  obtain ⟨S', h, m⟩ := r
  refine ⟨S', h.frm f fun k hk ht => ?_, ((Frm.of_below (S := S) b0).trans m.frm fun _ _ e => e).trans f fun k hk ht => ?_, fun k hk => (m.at_ k hk).imp id fun h => Nat.le_trans b0.size h⟩
  · obtain ⟨_, h2, h3⟩ := hT k ht
    rcases m.at_ k hk with e | e
    · exact h3 e
    · omega
  · have := (hT k ht).1
    omega

theorem Frm.set7 {T : Nat → Prop} {w w' : World} (f : Frm T w w') (r : Nat) (hr : T r) (v0 v1 v2 v3 v4 v5 v6 : Value) :
    Frm T w (((((((w'.setCell ⟨r, 0, none⟩ v0).setCell ⟨r, 1, none⟩ v1).setCell ⟨r, 2, none⟩ v2).setCell ⟨r, 3, none⟩ v3).setCell ⟨r, 4, none⟩ v4).setCell ⟨r, 5, none⟩ v5).setCell ⟨r, 6, none⟩ v6) :=
  ((((((f.setCell (p := ⟨r, 0, none⟩) (fun _ => hr) _).setCell (p := ⟨r, 1, none⟩) (fun _ => hr) _).setCell (p := ⟨r, 2, none⟩) (fun _ => hr) _).setCell (p := ⟨r, 3, none⟩) (fun _ => hr) _).setCell (p := ⟨r, 4, none⟩) (fun _ => hr) _).setCell (p := ⟨r, 5, none⟩) (fun _ => hr) _).setCell (p := ⟨r, 6, none⟩) (fun _ => hr) _

/-- What is known of the world is kept, its spelling is not. -/
theorem then_world {K : Act → World → Prop} {Q : Exit → Act → World → Prop} {e : Exit} {a : Act} {W : World} (C : World → Prop) (hc : C W) (h : ∀ W, C W → Exit.then K Q e a W) : Exit.then K Q e a W := h W hc

abbrev hdB (w : World) (k : Nat) (z p g y : Int) (f1 f2 f3 : Bool) : Prop := Blk w k #[.int .i64 z, .int .i64 p, .int .i64 g, .int .i64 y, .bool f1, .bool f2, .bool f3] 93

theorem Blk.set7 {w1 : World} {k : Nat} {t : TypeId} {u0 u1 u2 u3 u4 u5 u6 : Value} (h : Blk w1 k #[u0, u1, u2, u3, u4, u5, u6] t) (v0 v1 v2 v3 v4 v5 v6 : Value) :
    Blk (((((((w1.setCell ⟨k, 0, none⟩ v0).setCell ⟨k, 1, none⟩ v1).setCell ⟨k, 2, none⟩ v2).setCell ⟨k, 3, none⟩ v3).setCell ⟨k, 4, none⟩ v4).setCell ⟨k, 5, none⟩ v5).setCell ⟨k, 6, none⟩ v6) k #[v0, v1, v2, v3, v4, v5, v6] t := by
  have e := ((((((h.set_ 0 v0).set_ 1 v1).set_ 2 v2).set_ 3 v3).set_ 4 v4).set_ 5 v5).set_ 6 v6
  simpa only [List.setIfInBounds_toArray, List.set_cons_zero, List.set_cons_succ] using e

theorem Cr.box (hC : Cr w b S s) (o : Obj) : Cr (w.alloc o) b S s := hC.keep ((Below.refl _ w).alloc (Nat.le_refl _) o)

set_option maxHeartbeats 1000000 in
theorem held_no (hC : Cr w b S s) (h : Int) (e0 : s.has h = false) :
    Calls Tryz.prog 89 #[ptr b, .int .i64 h] w fun e w' => e = .returned (.tuple #[.int .i64 0, noV, .int .i64 3]) ∧ Below w.heap.size w w' := by
  have H := handle_any (hC.box hdO) h
  have e2 := (Co.has_no e0).2.1
  have e3 := (Co.has_no e0).2.2
  rw [e2, e3] at H
  have H := Lib.hid H
  clear e0 e2 e3 hC
  go_enter Tryz.func89, Tryz.ntmps89
  go_wp2_with fail
  refine H.out.mono ?_
  rintro e w1 ⟨rfl, rfl⟩
  clear H
  go_wp2
  exact bodyPost_ret (v := .tuple #[.int .i64 0, noV, .int .i64 3]) (by simp [results, Tryz.results89, go_sem]) rfl ⟨rfl, (Below.refl _ _).alloc (Nat.le_refl _) _⟩

set_option maxHeartbeats 1000000 in
theorem held_nil (hC : Cr w b S s) (h : Int) (e0 : s.has h = true) (ea : s.at_ h = 0) :
    Calls Tryz.prog 89 #[ptr b, .int .i64 h] w fun e w' => e = .returned (.tuple #[.int .i64 0, noV, .int .i64 4]) ∧ Below w.heap.size w w' := by
  have H := handle_any (hC.box hdO) h
  have e3 := Co.hE_yes e0
  rw [ea, e3] at H
  have H := Lib.hid H
  clear e0 ea e3 hC
  go_enter Tryz.func89, Tryz.ntmps89
  go_wp2_with fail
  refine H.out.mono ?_
  rintro e w1 ⟨rfl, rfl⟩
  clear H
  go_wp2
  exact bodyPost_ret (v := .tuple #[.int .i64 0, noV, .int .i64 4]) (by simp [results, Tryz.results89, go_sem]) rfl ⟨rfl, (Below.refl _ _).alloc (Nat.le_refl _) _⟩

theorem CoR.blk {w' : World} {s' : Co} (h : CoR w b S s' w') {k : Nat} {cs : Array Value} {t : TypeId} (hk : Blk w k cs t) (hn : ¬ S k) : Blk w' k cs t := hk.frm h.choose_spec.2.frm hn

/-- A local box, made behind the core, is none of its blocks. -/
theorem Cr.new (h : Cr w b S s) {k : Nat} (hk : w.heap.size ≤ k) : ¬ S k := fun e => by have := h.lt e; omega

/-- The head of an object is read. -/
theorem head_co {w : World} {b : Nat} {S : Nat → Prop} {s : Co} (hC : Cr w b S s) (x z p g y : Int) (f1 f2 f3 : Bool) (x0 : 0 < x) (hw : s.ws[x.toNat]? = some (wordI z p g y f1 f2 f3)) (hg : goodB z p g y = true) :
    ∃ a : Nat, w.cell? ⟨b, 13, none⟩ = some (arP a) ∧ Calls Tryz.prog 54 #[arP a, .int .i64 x] w fun e w' => e = .returned (.tuple #[hdV z p g y f1 f2 f3, .int .i64 0]) ∧ CoR w b S s w' := by
  obtain ⟨P, own, h0, rfl, rfl⟩ := hC
  obtain ⟨ab, ha, oa, ob⟩ := h0.prt 1
  obtain ⟨q1, q2, q3, q4, q5, q6, q7⟩ := split_word _ _ _ _ f1 f2 f3 hg
  obtain ⟨w0, w9⟩ := word_bounds _ _ _ _ f1 f2 f3 hg
  have hl := (List.getElem?_eq_some_iff.1 hw).1
  refine ⟨P.a, h0.cell 13, (head_yes _ _ _ _ ha h0.wl x _ ⟨by omega, by omega⟩ hw (by omega) (by omega) (isHd_word _ _ _ _ _ _ _ hg)).mono ?_⟩
  unfold unV
  rw [q1, q2, q3, q4, q5, q6, q7]
  rintro e w1 ⟨rfl, n1⟩
  exact ⟨rfl, h0.arena oa ob n1 rfl⟩

set_option maxHeartbeats 6000000 in
theorem held_yes (hC : Cr w b S s) (h : Int) (e0 : s.has h = true) (x z p g y : Int) (f1 f2 f3 : Bool) (hx : s.at_ h = x) (x0 : 0 < x) (hw : s.ws[x.toNat]? = some (wordI z p g y f1 f2 f3)) (hg : goodB z p g y = true) :
    Calls Tryz.prog 89 #[ptr b, .int .i64 h] w fun e w' => e = .returned (.tuple #[.int .i64 x, hdV z p g y f1 f2 f3, .int .i64 0]) ∧ CoR w b S s w' := by
  have k := hC.box hdO
  have H := handle_any k h
  have e3 := Co.hE_yes e0
  rw [hx, e3] at H
  have H := Lib.hid H
  have X : ¬ x = 0 := by omega
  obtain ⟨a, c13, hd⟩ := head_co k x z p g y f1 f2 f3 x0 hw hg
  have HD := Lib.hid hd
  have nb := Lib.hid (hC.new (Nat.le_refl _))
  have bx := Lib.hid (Blk.new w #[.int .i64 0, .int .i64 0, .int .i64 0, .int .i64 0, .bool false, .bool false, .bool false] 93)
  have L := Lib.hid ((Below.refl _ w).alloc (Nat.le_refl _) hdO)
  clear e0 hx e3 hC x0 hw hg k hd
  go_enter Tryz.func89, Tryz.ntmps89
  go_wp2_with fail
  refine H.out.mono ?_
  rintro e w1 ⟨rfl, rfl⟩
  clear H
  go_wp2_with fail
  refine HD.out.mono ?_
  rintro e w1 ⟨rfl, r1⟩
  have z1 := r1.blk bx.out nb.out
  have R1 := Lib.hid r1
  have lt := z1.lt
  have Z1 := Lib.hid z1
  obtain ⟨d0, d1, d2, d3, d4, d5, d6, df⟩ := z1.seven
  clear r1 z1 c13 HD
  go_wp2
  go_region
  all_goals
    clear d0 d1 d2 d3 d4 d5 d6 df
    refine then_world (fun W => hdB W w.heap.size z p g y f1 f2 f3 ∧ Frm (fun k => k = w.heap.size) w1 W) ⟨((Blk.set7 Z1.out _ _ _ _ _ _ _).alloc _).drew, (((Frm.refl (fun k => k = w.heap.size) w1).set7 _ rfl _ _ _ _ _ _ _).alloc _).drew⟩ ?_
    rintro W ⟨k1, fr⟩
    have RE := Lib.hid (R1.out.own L.out fr fun k e => ⟨by omega, by subst e; simp, by subst e; exact nb.out⟩)
    obtain ⟨d0, d1, d2, d3, d4, d5, d6, df⟩ := k1.seven
    clear k1 fr Z1 R1 L nb bx
    go_wp2
    exact bodyPost_ret (v := .tuple #[.int .i64 x, hdV z p g y f1 f2 f3, .int .i64 0]) (by simp [results, Tryz.results89, go_sem, d0, d1, d2, d3, d4, d5, d6]) rfl ⟨rfl, RE.out⟩
end
end Go.Proofs.YthmhehehomieiaaGreat

/- Contracts of young, old; of leaving, Now, Move, Mark, Note where no cycle goes on, and of none; of the tests of fields. -/
namespace Go.Proofs.YthmhehehomieiaaGreat
open Go.RowKit

/-- Does a place stand in the nursery? -/
def Co.youngB (s : Co) (x : Int) : Bool := inH (hAt s.cf.nu 1 s.yn) s.yu x || inH (hAt s.cf.nu 1 (!s.yn)) s.yv x
/-- Does an old object begin there? -/
def Co.oldB (s : Co) (x : Int) : Bool := ((cellsP (1 + 2 * s.cf.nu) s.cf.pz s.pgs).find? (hitB x)).isSome

/-- No cycle goes on: nothing is in the half that is emptied, nothing is old, no colour is looked for. -/
structure Co.Calm (s : Co) : Prop where
  left : s.yv = 0
  half : s.yn = false
  idle : s.ph = 0
  still : s.mv = false
  none : cellsP (1 + 2 * s.cf.nu) s.cf.pz s.pgs = []

theorem inH_none (a x : Int) : inH a 0 x = false := by
  unfold inH
  rw [Bool.and_eq_false_iff, decide_eq_false_iff_not, decide_eq_false_iff_not]
  omega

theorem Co.Calm.from_ {s : Co} (h : s.Calm) (x : Int) : inH (hAt s.cf.nu 1 (!s.yn)) s.yv x = false := by rw [h.left]; exact inH_none _ _
theorem Co.Calm.old {s : Co} (h : s.Calm) (x : Int) : s.oldB x = false := by unfold Co.oldB; rw [h.none]; rfl

section
variable {w : World} {b : Nat} {S : Nat → Prop} {s : Co}

theorem Cr.half (hC : Cr w b S s) : ∃ y : Nat, w.cell? ⟨b, 14, Option.none⟩ = some (bpP y) ∧ IsBp w y s.cf.nu 1 s.yn s.yu s.yv := by
  obtain ⟨P, own, h0, rfl, rfl⟩ := hC
  exact ⟨P.y, h0.cell 14, (h0.prt 2).1⟩

set_option maxHeartbeats 1000000 in
theorem young_any (hC : Cr w b S s) (x : Int) :
    Calls Tryz.prog 95 #[ptr b, .int .i64 x] w fun e w' => e = .returned (.bool (s.youngB x)) ∧ Below w.heap.size w w' := by
  have HC := Lib.hid hC
  obtain ⟨y, c14, hy⟩ := hC.half
  have HY := Lib.hid hy
  unfold Co.youngB
  clear hC hy
  cases e1 : inH (hAt s.cf.nu 1 s.yn) s.yu x
  · have H1 := bIn_any y _ _ _ _ _ w x HY.out
    rw [e1] at H1
    have H1 := Lib.hid H1
    have G2 := Lib.hid (fun w' k => bFrom_any y _ _ _ _ _ w' x (IsBp.keep HY.out k))
    generalize inH (hAt s.cf.nu 1 (!s.yn)) s.yv x = r at *
    clear e1
    go_enter Tryz.func95, Tryz.ntmps95
    go_wp2_with fail
    refine H1.out.mono ?_
    rintro e w1 ⟨rfl, b1⟩
    have B1 := Lib.hid b1
    have d14 : w1.cell? ⟨b, 14, Option.none⟩ = some (bpP y) := by
      obtain ⟨y', c', _⟩ := (HC.out.keep b1).half
      obtain ⟨P, own, h0, rfl, _⟩ := HC.out
      exact (b1.cell (p := ⟨P.b, 14, Option.none⟩) (h0.prt 0).1.lt).trans c14
    clear b1 c14 H1
    go_wp2_with fail
    refine (G2.out _ B1.out).mono ?_
    rintro e w2 ⟨rfl, b2⟩
    have B2 := Lib.hid (below_trans B1.out b2)
    clear b2 B1 d14
    go_wp2
    go_ret
    exact ⟨by simp, B2.out⟩
  · have H1 := bIn_any y _ _ _ _ _ w x HY.out
    rw [e1] at H1
    have H1 := Lib.hid H1
    clear e1
    go_enter Tryz.func95, Tryz.ntmps95
    go_wp2_with fail
    refine H1.out.mono ?_
    rintro e w1 ⟨rfl, b1⟩
    have B1 := Lib.hid b1
    clear b1 c14 H1
    go_wp2
    go_ret
    exact ⟨by simp, B1.out⟩

set_option maxHeartbeats 1000000 in
theorem old_any (hC : Cr w b S s) (x : Int) (x0 : -9223372036854775808 ≤ x) (x1 : x ≤ 9223372036854775807) :
    Calls Tryz.prog 78 #[ptr b, .int .i64 x] w fun e w' => e = .returned (.bool (s.oldB x)) ∧ Below w.heap.size w w' := by
  obtain ⟨P, own, h0, rfl, rfl⟩ := hC
  have c15 : w.cell? ⟨P.b, 15, Option.none⟩ = some (spP P.o) := h0.cell 15
  obtain ⟨pb, ub, hp, _⟩ := h0.prt 3
  have H := mSize_any _ _ _ _ _ _ _ x w hp x0 x1
  unfold Co.oldB
  unfold sizeV at H
  unfold spP at c15 H
  cases e1 : (cellsP (1 + 2 * s.cf.nu) s.cf.pz s.pgs).find? (hitB x) with
  | none =>
    rw [e1] at H
    have H := Lib.hid H
    clear h0 hp e1
    go_enter Tryz.func78, Tryz.ntmps78
    go_wp2_with fail
    refine H.out.mono ?_
    rintro e w1 ⟨rfl, b1⟩
    have B1 := Lib.hid b1
    clear b1 H
    go_wp2
    go_ret
    exact ⟨rfl, B1.out⟩
  | some c =>
    rw [e1] at H
    have H := Lib.hid H
    clear h0 hp e1
    go_enter Tryz.func78, Tryz.ntmps78
    go_wp2_with fail
    refine H.out.mono ?_
    rintro e w1 ⟨rfl, b1⟩
    have B1 := Lib.hid b1
    clear b1 H
    go_wp2
    go_ret
    exact ⟨rfl, B1.out⟩

set_option maxHeartbeats 1000000 in
theorem leaving_none (x : Int) (w : World) :
    Calls Tryz.prog 80 #[.pointer Option.none, .int .i64 x] w fun e w' => e = .returned (.tuple #[noV, .int .i64 x, .bool false]) ∧ Below w.heap.size w w' := by
  go_enter Tryz.func80, Tryz.ntmps80
  go_wp2
  exact bodyPost_ret (v := .tuple #[noV, .int .i64 x, .bool false]) (by simp [results, Tryz.results80, go_sem]) rfl ⟨rfl, (Below.refl _ _).alloc (Nat.le_refl _) _⟩

set_option maxHeartbeats 1000000 in
/-- Of a place that is not in the half that is emptied. -/
theorem leaving_no (hC : Cr w b S s) (x : Int) (hx : inH (hAt s.cf.nu 1 (!s.yn)) s.yv x = false) :
    Calls Tryz.prog 80 #[ptr b, .int .i64 x] w fun e w' => e = .returned (.tuple #[noV, .int .i64 x, .bool false]) ∧ Below w.heap.size w w' := by
  obtain ⟨y, c14, hy⟩ := (hC.box hdO).half
  have H := bFrom_any y _ _ _ _ _ _ x hy
  rw [hx] at H
  have H := Lib.hid H
  have bx := Lib.hid (Blk.new w #[.int .i64 0, .int .i64 0, .int .i64 0, .int .i64 0, .bool false, .bool false, .bool false] 93)
  clear hC hy hx
  go_enter Tryz.func80, Tryz.ntmps80
  go_wp2_with fail
  refine H.out.mono ?_
  rintro e w1 ⟨rfl, b1⟩
  obtain ⟨d0, d1, d2, d3, d4, d5, d6, df⟩ := (bx.out.keep b1).seven
  have B1 := Lib.hid (below_alloc_trans _ b1)
  clear b1 H bx c14
  go_wp2
  exact bodyPost_ret (v := .tuple #[noV, .int .i64 x, .bool false]) (by simp [results, Tryz.results80, go_sem, d0, d1, d2, d3, d4, d5, d6]) rfl ⟨rfl, below_set7 B1.out _ (Nat.le_refl _) _ _ _ _ _ _ _⟩

/-- Now or Move of a place whose leaving says no. -/
theorem now_of {p : Value} (x : Int) (w : World) (H : Calls Tryz.prog 80 #[p, .int .i64 x] w fun e w' => e = .returned (.tuple #[noV, .int .i64 x, .bool false]) ∧ Below w.heap.size w w') :
    Calls Tryz.prog 31 #[p, .int .i64 x] w fun e w' => e = .returned (.int .i64 x) ∧ Below w.heap.size w w' := by
  have H := Lib.hid H
  go_enter Tryz.func31, Tryz.ntmps31
  go_wp2_with fail
  refine H.out.mono ?_
  rintro e w1 ⟨rfl, b1⟩
  have B1 := Lib.hid (b1.alloc b1.size hdO)
  clear b1 H
  go_wp2
  go_ret
  exact ⟨rfl, B1.out⟩

set_option maxHeartbeats 1000000 in
theorem move_of {p : Value} (x : Int) (w : World) (H : Calls Tryz.prog 80 #[p, .int .i64 x] w fun e w' => e = .returned (.tuple #[noV, .int .i64 x, .bool false]) ∧ Below w.heap.size w w') :
    Calls Tryz.prog 32 #[p, .int .i64 x] w fun e w' => e = .returned (.int .i64 x) ∧ Below w.heap.size w w' := by
  have H := Lib.hid H
  go_enter Tryz.func32, Tryz.ntmps32
  go_wp2_with fail
  refine H.out.mono ?_
  rintro e w1 ⟨rfl, b1⟩
  have B1 := Lib.hid (b1.alloc b1.size hdO)
  clear b1 H
  go_wp2
  go_ret
  exact ⟨rfl, B1.out⟩

set_option maxHeartbeats 400000 in
theorem mark_none (x : Int) (w : World) : Calls Tryz.prog 29 #[.pointer Option.none, .int .i64 x] w fun e w' => e = .returned (.tuple #[]) ∧ w = w' := by
  go_enter Tryz.func29, Tryz.ntmps29
  go_wp2
  first | go_end0 | refine bodyPost_ret (results_none rfl _ _ _) rfl ?_
  exact ⟨rfl, rfl⟩

set_option maxHeartbeats 400000 in
theorem note_none (x : Int) (w : World) : Calls Tryz.prog 30 #[.pointer Option.none, .int .i64 x] w fun e w' => e = .returned (.tuple #[]) ∧ w = w' := by
  go_enter Tryz.func30, Tryz.ntmps30
  go_wp2
  first | go_end0 | refine bodyPost_ret (results_none rfl _ _ _) rfl ?_
  exact ⟨rfl, rfl⟩

set_option maxHeartbeats 1000000 in
/-- In another phase than Marks nothing is marked. -/
theorem mark_no (hC : Cr w b S s) (x : Int) (hp : s.ph ≠ 1) :
    Calls Tryz.prog 29 #[ptr b, .int .i64 x] w fun e w' => e = .returned (.tuple #[]) ∧ w = w' := by
  obtain ⟨P, own, h0, rfl, rfl⟩ := hC
  have c20 : w.cell? ⟨P.b, 20, Option.none⟩ = some (.int .i64 s.ph) := h0.cell 20
  clear h0
  go_enter Tryz.func29, Tryz.ntmps29
  go_wp2
  first | go_end0 | refine bodyPost_ret (results_none rfl _ _ _) rfl ?_
  exact ⟨rfl, rfl⟩

set_option maxHeartbeats 1000000 in
/-- What is not old is not noted. -/
theorem note_no (hC : Cr w b S s) (x : Int) (x0 : -9223372036854775808 ≤ x) (x1 : x ≤ 9223372036854775807) (ho : s.oldB x = false) :
    Calls Tryz.prog 30 #[ptr b, .int .i64 x] w fun e w' => e = .returned (.tuple #[]) ∧ Below w.heap.size w w' := by
  have H := old_any hC x x0 x1
  rw [ho] at H
  have H := Lib.hid H
  clear hC ho
  go_enter Tryz.func30, Tryz.ntmps30
  go_wp2_with fail
  refine H.out.mono ?_
  rintro e w1 ⟨rfl, b1⟩
  have B1 := Lib.hid b1
  clear b1 H
  go_wp2
  first | go_end0 | refine bodyPost_ret (results_none rfl _ _ _) rfl ?_
  exact ⟨rfl, B1.out⟩

def refB (p n : Int) : Bool := decide (0 ≤ n) && decide (n < p)
def scaB (z p n : Int) : Bool := decide (0 ≤ n) && decide (n < z - p)

set_option maxHeartbeats 1000000 in
theorem isRef_any (z p g y n : Int) (f1 f2 f3 : Bool) (w : World) :
    Calls Tryz.prog 90 #[hdV z p g y f1 f2 f3, .int .i64 n] w fun e w' => e = .returned (.bool (refB p n)) ∧ Below w.heap.size w w' := by
  unfold refB
  by_cases h0 : 0 ≤ n
  · have e0 : decide (0 ≤ n) = true := decide_eq_true h0
    rw [e0]
    go_enter Tryz.func90, Tryz.ntmps90
    go_wp2
    go_ret
    exact ⟨by simp, (Below.refl _ _).alloc (Nat.le_refl _) _⟩
  · have e0 : decide (0 ≤ n) = false := decide_eq_false h0
    rw [e0]
    go_enter Tryz.func90, Tryz.ntmps90
    go_wp2
    go_ret
    exact ⟨rfl, (Below.refl _ _).alloc (Nat.le_refl _) _⟩

set_option maxHeartbeats 1000000 in
theorem isSca_any (z p g y n : Int) (f1 f2 f3 : Bool) (w : World) (z0 : 0 ≤ p) (z1 : p ≤ z) (z2 : z ≤ 64) :
    Calls Tryz.prog 92 #[hdV z p g y f1 f2 f3, .int .i64 n] w fun e w' => e = .returned (.bool (scaB z p n)) ∧ Below w.heap.size w w' := by
  unfold scaB
  have hw : IntKind.i64.wrap (z - p) = z - p := IntWalk.i64_in _ (by omega)
  by_cases h0 : 0 ≤ n
  · have e0 : decide (0 ≤ n) = true := decide_eq_true h0
    rw [e0]
    go_enter Tryz.func92, Tryz.ntmps92
    go_wp2
    go_ret
    exact ⟨by simp, (Below.refl _ _).alloc (Nat.le_refl _) _⟩
  · have e0 : decide (0 ≤ n) = false := decide_eq_false h0
    rw [e0]
    go_enter Tryz.func92, Tryz.ntmps92
    go_wp2
    go_ret
    exact ⟨rfl, (Below.refl _ _).alloc (Nat.le_refl _) _⟩
end
end Go.Proofs.YthmhehehomieiaaGreat

/- A core on the way through a call, with boxes beside it; its parts' calls; take, Make. -/
namespace Go.Proofs.YthmhehehomieiaaGreat
open Go.RowKit

/-- On the way from w0: the core holds s; blocks of Z, made on the way, are none of its own. -/
structure Cw (w0 w : World) (S0 Z : Nat → Prop) (b : Nat) (s : Co) : Prop where
  is : ∃ S, Cr w b S s ∧ Mv S0 S w0 w ∧ ∀ k, Z k → ¬ S k
  low : ∀ k, Z k → w0.heap.size ≤ k ∧ k < w.heap.size

section
variable {w0 w w' : World} {S0 S Z Z' : Nat → Prop} {b : Nat} {s s' : Co}

theorem Cr.way (h : Cr w b S s) : Cw w w S noZ b s := ⟨⟨S, h, Mv.of_below (Below.refl _ _), fun _ e => e.elim⟩, fun _ e => e.elim⟩
theorem Cw.done (h : Cw w0 w S0 Z b s) : CoR w0 b S0 s w := let ⟨S, h1, h2, _⟩ := h.is; ⟨S, h1, h2⟩
theorem Cw.after (h : Cw w0 w S0 Z b s) (m : Mv S0 S w0 w) (z : ∀ k, Z k → ¬ S k) (r : CoR w b S s' w') : Cw w0 w' S0 Z b s' ∧ Kp Z w w' := by
  obtain ⟨S', c, m'⟩ := r
  refine ⟨⟨⟨S', c, m.trans m', fun k hz hk => ?_⟩, fun k hz => ⟨(h.low k hz).1, Nat.lt_of_lt_of_le (h.low k hz).2 m'.frm.size⟩⟩, m'.frm.mono fun k _ hk hz => z k hz hk⟩
  rcases m'.at_ k hk with e | e
  · exact z k hz e
  · have := (h.low k hz).2; omega
theorem Cw.grow (h : Cw w0 w S0 Z b s) (f : Below w.heap.size w w') (hz : ∀ k, Z' k → Z k ∨ (w.heap.size ≤ k ∧ k < w'.heap.size)) : Cw w0 w' S0 Z' b s := by
  obtain ⟨S, c, m, z⟩ := h.is
  refine ⟨⟨S, c.keep f, m.post f, fun k hk hs => ?_⟩, fun k hk => ?_⟩
  · rcases hz k hk with e | e
    · exact z k e hs
    · have := c.lt hs; omega
  · rcases hz k hk with e | e
    · exact ⟨(h.low k e).1, Nat.lt_of_lt_of_le (h.low k e).2 f.size⟩
    · exact ⟨Nat.le_trans m.frm.size e.1, e.2⟩
theorem Cw.keep (h : Cw w0 w S0 Z b s) (f : Below w.heap.size w w') : Cw w0 w' S0 Z b s := h.grow f fun _ => .inl
theorem Cw.box (h : Cw w0 w S0 Z b s) (o : Obj) : Cw w0 (w.alloc o) S0 (fun k => Z k ∨ k = w.heap.size) b s :=
  h.grow ((Below.refl _ w).alloc (Nat.le_refl _) o) fun k hk => hk.imp id fun e => ⟨by omega, by subst e; simp⟩
/-- A box was written to. -/
theorem Cw.write {T : Nat → Prop} (h : Cw w0 w S0 Z b s) (f : Frm T w w') (hT : ∀ k, T k → Z k) : Cw w0 w' S0 Z b s := by
  obtain ⟨S, c, m, z⟩ := h.is
  refine ⟨⟨S, c.frm f fun k hk ht => z k (hT k ht) hk, ⟨m.frm.trans f fun k hk ht => ?_, m.at_⟩, z⟩, fun k hk => ⟨(h.low k hk).1, Nat.lt_of_lt_of_le (h.low k hk).2 f.size⟩⟩
  have := (h.low k (hT k ht)).1
  omega
theorem Cw.call {P : Program} {fn : FuncId} {args : Array Value} {R : Ending → Prop} (h : Cw w0 w S0 Z b s) (c : ∀ S, Cr w b S s → Calls P fn args w fun e w' => R e ∧ CoR w b S s' w') :
    Calls P fn args w fun e w' => R e ∧ Cw w0 w' S0 Z b s' ∧ Kp Z w w' := by
  obtain ⟨S, k, m, z⟩ := h.is
  exact (c S k).mono fun e w' ⟨r, q⟩ => ⟨r, h.after m z q⟩
theorem Cw.cr (h : Cw w0 w S0 Z b s) : ∃ S, Cr w b S s ∧ ∀ k, Z k → ¬ S k := let ⟨S, c, _, z⟩ := h.is; ⟨S, c, z⟩

/-- The halves have turned. -/
theorem IsCo.young {P : Pos} {own : Nat → Nat → Prop} (h : IsCo w P own s) {n : Bool} {u v : Int} (k : IsBp w' P.y s.cf.nu 1 n u v) (f : Frm (fun k => k = P.y) w w') :
    CoR w P.b (fun k => ∃ j, own j k) (s.halves n u v) w' := by
  obtain ⟨hb, oy⟩ := h.prt 2
  refine h.turn 2 (P' := P) (O' := own 2) (f.mono ?_) ⟨k, oy⟩ (fun k e => .inl e) (fun k e => Nat.lt_of_lt_of_le (h.lt _ _ e) f.size) ?_ rfl rfl rfl
  · rintro k _ rfl; exact oy
  · intro i hi v O hp
    rcases i with _ | _ | _ | _ | _ | _ | _ | _ | _ | i <;> first | exact absurd rfl hi | exact hp

/-- The table has turned. -/
theorem IsCo.table {P : Pos} {own : Nat → Nat → Prop} (h : IsCo w P own s) {tg : Nat} (og : own 6 tg) {xs : List Int} (k : IsHt w' P.t tg xs) (f : Frm (fun k => k = tg) w w') :
    CoR w P.b (fun k => ∃ j, own j k) (s.put xs) w' := by
  obtain ⟨tg', ht, ot, og'⟩ := h.prt 6
  refine h.turn 6 (P' := P) (O' := own 6) (f.mono ?_) ⟨tg, k, ot, og⟩ (fun k e => .inl e) (fun k e => Nat.lt_of_lt_of_le (h.lt _ _ e) f.size) ?_ rfl rfl rfl
  · rintro k _ rfl; exact og
  · intro i hi v O hp
    rcases i with _ | _ | _ | _ | _ | _ | _ | _ | _ | i <;> first | exact absurd rfl hi | exact hp

/-- What a handle holds is set. -/
theorem tset_co (hC : Cr w b S s) (j : Nat) (hj : j < s.hs.length) (x : Int) :
    ∃ t : Nat, w.cell? ⟨b, 18, Option.none⟩ = some (htP t) ∧ Calls Tryz.prog 88 #[htP t, .int .i64 j, .int .i64 x] w fun e w' => e = .returned (.int .i64 0) ∧ CoR w b S (s.put (s.hs.set j x)) w' := by
  obtain ⟨P, own, h0, rfl, rfl⟩ := hC
  obtain ⟨tg, ht, ot, og⟩ := h0.prt 6
  refine ⟨P.t, h0.cell 18, (tbSet_yes _ _ _ x _ ht j hj).mono ?_⟩
  rintro e w1 ⟨rfl, k, f⟩
  exact ⟨rfl, h0.table og k f⟩

/-- A handle that there is not is not set. -/
theorem tset_no (hC : Cr w b S s) (h x : Int) (hn : h < 0 ∨ (s.hs.length : Int) ≤ h) :
    ∃ t : Nat, w.cell? ⟨b, 18, Option.none⟩ = some (htP t) ∧ Calls Tryz.prog 88 #[htP t, .int .i64 h, .int .i64 x] w fun e w' => e = .returned (.int .i64 3) ∧ w = w' := by
  obtain ⟨P, own, h0, rfl, rfl⟩ := hC
  obtain ⟨tg, ht, ot, og⟩ := h0.prt 6
  exact ⟨P.t, h0.cell 18, tbSet_no _ _ _ h _ x ht hn⟩

/-- A field is read. -/
theorem field_co (hC : Cr w b S s) (at_ n x : Int) (n0 : 0 ≤ n) (n1 : n < 64) (a0 : 0 ≤ at_) (hx : s.ws[(at_ + (2 + n)).toNat]? = some x) :
    ∃ a : Nat, w.cell? ⟨b, 13, Option.none⟩ = some (arP a) ∧ Calls Tryz.prog 91 #[arP a, .int .i64 at_, .int .i64 n] w fun e w' => e = .returned (.tuple #[.int .u64 x, .int .i64 0]) ∧ CoR w b S s w' := by
  obtain ⟨P, own, h0, rfl, rfl⟩ := hC
  obtain ⟨ab, ha, oa, ob⟩ := h0.prt 1
  have hl := (List.getElem?_eq_some_iff.1 hx).1
  refine ⟨P.a, h0.cell 13, (field_yes _ _ _ _ ha h0.wl at_ n x n0 n1 ⟨by omega, by omega⟩ hx).mono ?_⟩
  rintro e w1 ⟨rfl, n1⟩
  exact ⟨rfl, h0.arena oa ob n1 rfl⟩

/-- A field is read, and the arena is where it was. -/
theorem field_co2 (hC : Cr w b S s) (at_ n x : Int) (n0 : 0 ≤ n) (n1 : n < 64) (a0 : 0 ≤ at_) (hx : s.ws[(at_ + (2 + n)).toNat]? = some x) :
    ∃ a : Nat, w.cell? ⟨b, 13, Option.none⟩ = some (arP a) ∧ Calls Tryz.prog 91 #[arP a, .int .i64 at_, .int .i64 n] w fun e w' => e = .returned (.tuple #[.int .u64 x, .int .i64 0]) ∧ CoR w b S s w' ∧ w'.cell? ⟨b, 13, Option.none⟩ = some (arP a) := by
  obtain ⟨P, own, h0, rfl, rfl⟩ := hC
  obtain ⟨ab, ha, oa, ob⟩ := h0.prt 1
  have hl := (List.getElem?_eq_some_iff.1 hx).1
  refine ⟨P.a, h0.cell 13, (field_yes _ _ _ _ ha h0.wl at_ n x n0 n1 ⟨by omega, by omega⟩ hx).mono ?_⟩
  rintro e w1 ⟨rfl, n1⟩
  refine ⟨rfl, h0.arena oa ob n1 rfl, ?_⟩
  have o0 := (h0.prt 0).2
  exact ((h0.prt 0).1.frm n1.frm (by
    rintro (e | e)
    · have := h0.ap 0 1 _ o0 (e ▸ oa); omega
    · have := h0.ap 0 1 _ o0 (e ▸ ob); omega)).cell 13

/-- A field is written. -/
theorem setField_co (hC : Cr w b S s) (at_ n x : Int) (n0 : 0 ≤ n) (n1 : n < 64) (a0 : 0 ≤ at_) (hl : (at_ + (2 + n)).toNat < s.ws.length) :
    ∃ a : Nat, w.cell? ⟨b, 13, Option.none⟩ = some (arP a) ∧ Calls Tryz.prog 94 #[arP a, .int .i64 at_, .int .i64 n, .int .u64 x] w fun e w' => e = .returned (.int .i64 0) ∧ CoR w b S (s.wrote (s.ws.set (at_ + (2 + n)).toNat x)) w' := by
  obtain ⟨P, own, h0, rfl, rfl⟩ := hC
  obtain ⟨ab, ha, oa, ob⟩ := h0.prt 1
  refine ⟨P.a, h0.cell 13, (setField_yes _ _ _ _ ha h0.wl at_ n x n0 n1 ⟨by omega, by omega⟩).mono ?_⟩
  rintro e w1 ⟨rfl, n1⟩
  exact ⟨rfl, h0.arena oa ob n1 (by simp)⟩

/-- An object is made. -/
theorem make_co (hC : Cr w b S s) (at_ z p y : Int) (hg : goodB z p 0 y = true) (a0 : 0 ≤ at_) (hr : at_ + (z + 2) ≤ s.ws.length) :
    ∃ a : Nat, w.cell? ⟨b, 13, Option.none⟩ = some (arP a) ∧ Calls Tryz.prog 87 #[arP a, .int .i64 at_, hdV z p 0 y false false false] w fun e w' => e = .returned (.int .i64 0) ∧ CoR w b S (s.wrote (madeW s.ws at_ z (wordI z p 0 y false false false))) w' := by
  obtain ⟨P, own, h0, rfl, rfl⟩ := hC
  obtain ⟨ab, ha, oa, ob⟩ := h0.prt 1
  refine ⟨P.a, h0.cell 13, (make_yes _ _ _ _ ha h0.wl at_ z p 0 y false false false hg ⟨a0, hr⟩).mono ?_⟩
  rintro e w1 ⟨rfl, n1⟩
  have z0 : 0 ≤ z := ((goodB_iff ..).1 hg).1
  exact ⟨rfl, h0.arena oa ob n1 (by unfold madeW; rw [List.length_set, List.length_set, splice_len _ z0 ⟨a0, hr⟩])⟩

/-- Room, and words of the half that is filled. -/
theorem room_co (hC : Cr w b S s) : ∃ y : Nat, w.cell? ⟨b, 14, Option.none⟩ = some (bpP y) ∧ Calls Tryz.prog 125 #[bpP y] w fun e w' => e = .returned (.int .i64 (s.cf.nu - s.yu)) ∧ Below w.heap.size w w' := by
  obtain ⟨y, c, h⟩ := hC.half
  exact ⟨y, c, bRoom_any _ _ _ _ _ _ _ h⟩

theorem btake_co (hC : Cr w b S s) (k : Int) (h1 : 1 ≤ k) (h2 : k ≤ s.cf.nu - s.yu) :
    ∃ y : Nat, w.cell? ⟨b, 14, Option.none⟩ = some (bpP y) ∧ Calls Tryz.prog 155 #[bpP y, .int .i64 k] w fun e w' => e = .returned (.tuple #[.int .i64 (hAt s.cf.nu 1 s.yn + s.yu), .bool true]) ∧ CoR w b S (s.filled k) w' := by
  obtain ⟨P, own, h0, rfl, rfl⟩ := hC
  obtain ⟨hb, oy⟩ := h0.prt 2
  refine ⟨P.y, h0.cell 14, (bTake_yes _ _ _ _ _ _ _ k hb h1 h2).mono ?_⟩
  rintro e w1 ⟨rfl, n1, f⟩
  exact ⟨rfl, h0.young n1 f⟩

/-- The core's own cell. -/
theorem Cr.cell (hC : Cr w b S s) : ∃ P own, IsCo w P own s ∧ P.b = b ∧ (∀ i, w.cell? ⟨b, i, Option.none⟩ = (coL P s)[i]?) ∧ (∀ i, w.frozen? ⟨b, i, Option.none⟩ = false) ∧ b < w.heap.size := by
  obtain ⟨P, own, h0, rfl, rfl⟩ := hC
  exact ⟨P, own, h0, rfl, h0.cell, h0.frozen, (h0.prt 0).1.lt⟩

/-- Two cells of the core have turned: what was done. -/
theorem Cr.did (hC : Cr w b S s) (x y : Int) : CoR w b S (s.did x y) ((w.setCell ⟨b, 26, Option.none⟩ (.int .i64 x)).setCell ⟨b, 27, Option.none⟩ (.int .i64 y)) := by
  obtain ⟨P, own, h0, rfl, rfl⟩ := hC
  obtain ⟨hb, o0⟩ := h0.prt 0
  have e := (hb.set_ 26 (.int .i64 x)).set_ 27 (.int .i64 y)
  have f : Frm (fun k => k = P.b) w ((w.setCell ⟨P.b, 26, Option.none⟩ (.int .i64 x)).setCell ⟨P.b, 27, Option.none⟩ (.int .i64 y)) :=
    ((Frm.refl (fun k => k = P.b) w).setCell (p := ⟨P.b, 26, Option.none⟩) (fun _ => rfl) _).setCell (p := ⟨P.b, 27, Option.none⟩) (fun _ => rfl) _
  refine h0.turn 0 (P' := P) (O' := own 0) (f.mono ?_) ⟨?_, o0⟩ (fun k e => .inl e) (fun k e => Nat.lt_of_lt_of_le (h0.lt _ _ e) f.size) ?_ rfl rfl rfl
  · rintro k _ rfl; exact o0
  · unfold coL at e ⊢
    unfold Co.did
    simpa only [List.setIfInBounds_toArray, List.set_cons_zero, List.set_cons_succ] using e
  · intro i hi v O hp
    rcases i with _ | _ | _ | _ | _ | _ | _ | _ | _ | i <;> first | exact absurd rfl hi | exact hp

/-- The list of places where no object begins. -/
theorem Cr.wi_len (hC : Cr w b S s) : s.wi.length = (1 + 2 * s.cf.nu).toNat := by
  obtain ⟨P, own, h0, rfl, rfl⟩ := hC
  exact (h0.prt 8).2.1
def Co.flags (s : Co) (xs : List Bool) : Co := { s with wi := xs }
theorem Cr.wi_at (hC : Cr w b S s) : ∃ k : Nat, w.cell? ⟨b, 34, Option.none⟩ = some (.slice (some ⟨k, 0, Option.none⟩) s.wi.length s.wi.length) ∧ Blk w k (s.wi.map Value.bool).toArray 4 ∧
    ∀ j x, CoR w b S (s.flags (s.wi.set j x)) (w.setCell ⟨k, j, Option.none⟩ (.bool x)) := by
  obtain ⟨P, own, h0, rfl, rfl⟩ := hC
  obtain ⟨h8, l8, o8⟩ := h0.prt 8
  refine ⟨P.wb, by rw [l8]; exact h0.cell 34, h8, fun j x => ?_⟩
  have f : Frm (fun k => k = P.wb) w (w.setCell ⟨P.wb, j, Option.none⟩ (.bool x)) := (Frm.refl (fun k => k = P.wb) w).setCell (p := ⟨P.wb, j, Option.none⟩) (fun _ => rfl) _
  refine h0.turn 8 (P' := P) (O' := own 8) (f.mono ?_) ⟨h8.setBool j x, by show (s.wi.set j x).length = _; rw [List.length_set]; exact l8, o8⟩ (fun k e => .inl e) (fun k e => Nat.lt_of_lt_of_le (h0.lt _ _ e) f.size) ?_ rfl rfl rfl
  · rintro k _ rfl; exact o8
  · intro i hi v O hp
    rcases i with _ | _ | _ | _ | _ | _ | _ | _ | _ | i <;> first | exact absurd rfl hi | exact hp

/-- Bounds of the halves. -/
theorem Cr.bounds (hC : Cr w b S s) : 0 ≤ s.cf.nu ∧ s.cf.nu ≤ 1048576 ∧ 0 ≤ s.yu ∧ s.yu ≤ s.cf.nu := by
  obtain ⟨P, own, h0, rfl, rfl⟩ := hC
  have h := (h0.prt 2).1
  exact ⟨h.w0, h.w1, h.u0, h.u1⟩

/-- So far i places are told. -/
def SetI (w wr : World) (b : Nat) (S : Nat → Prop) (s : Co) (k : Int) (n i : Nat) : Prop := CoR w b S ((s.filled k).flags (wiS s.wi n i)) wr

set_option maxHeartbeats 4000000 in
/-- Room for one object, and where it begins. -/
theorem settle_co (hC : Cr w b S s) (k : Int) (h1 : 1 ≤ k) (h2 : k ≤ s.cf.nu - s.yu) :
    Calls Tryz.prog 120 #[ptr b, .int .i64 k] w fun e w' => e = .returned (.tuple #[.int .i64 (hAt s.cf.nu 1 s.yn + s.yu), .bool true]) ∧ CoR w b S (s.took k) w' := by
  obtain ⟨y, c14, ht⟩ := btake_co hC k h1 h2
  have bd := hC.bounds
  have hl := hC.wi_len
  have ha : hAt s.cf.nu 1 s.yn = 1 ∨ hAt s.cf.nu 1 s.yn = 1 + s.cf.nu := by unfold hAt; split <;> omega
  obtain ⟨n, hn⟩ : ∃ n : Nat, hAt s.cf.nu 1 s.yn + s.yu = n := ⟨(hAt s.cf.nu 1 s.yn + s.yu).toNat, by omega⟩
  obtain ⟨K, rfl⟩ : ∃ K : Nat, k = K := ⟨k.toNat, by omega⟩
  have FIN : Hid (∀ wr, SetI w wr b S s K n K → CoR w b S (s.took K) wr) := Lib.hid (fun wr h => by
    have e : s.took K = (s.filled K).flags (wiS s.wi n K) := by
      unfold Co.took Co.filled Co.flags
      rw [hn]
      rfl
    rw [e]; exact h)
  rw [hn] at ht ⊢
  have HT := Lib.hid ht
  have nl : n + K ≤ s.wi.length := by omega
  have ll : s.wi.length ≤ 4194304 := by omega
  have HLN := Lib.hid (And.intro nl ll)
  clear ht hC hl ha bd hn
  have hs : IntKind.i64.wrap ((s.wi.length : Int) - n) = (s.wi.length : Int) - n := IntWalk.i64_in _ (by omega)
  have hm : (if (s.wi.length : Int) - n < K then (s.wi.length : Int) - n else (K : Int)) = K := by rw [if_neg (by omega)]
  go_enter Tryz.func120, Tryz.ntmps120
  go_wp2_with fail
  refine HT.out.mono ?_
  rintro e w1 ⟨rfl, r1⟩
  obtain ⟨S1, c1, m1⟩ := r1
  obtain ⟨kb, c34, bk, T⟩ := c1.wi_at
  replace c34 : w1.cell? ⟨b, 34, Option.none⟩ = some (.slice (some ⟨kb, 0, Option.none⟩) s.wi.length s.wi.length) := c34
  have R1 : Hid (SetI w w1 b S s K n 0) := Lib.hid ⟨S1, c1, m1⟩
  clear c1 m1 bk T HT c14
  have hL := Lib.hid (show ∀ i, (wiS s.wi n i).length = s.wi.length from fun i => wiS_len i)
  generalize s.wi.length = L at *
  have hs : wrap64 ((L : Int) - n) = (L : Int) - n := by unfold wrap64; omega
  have kl : (K : Int) ≤ (L : Int) - n := by omega
  go_wp2_with fail
  clear c34
  go_loopw [8, 29] (fun _ s29 wr => ∃ i : Nat, i ≤ K ∧ s29 = .int .i64 i ∧ Hid (SetI w wr b S s K n i)) (fun _ s29 _ => K - (intOf s29).toNat)
  case atStart => exact ⟨0, by omega, rfl, R1⟩
  case round =>
    obtain ⟨i, hi, rfl, HI⟩ := hrel
    clear R1
    by_cases e : i < K
    · obtain ⟨S2, c2, m2⟩ := HI.out
      obtain ⟨kc, c34, bk, T⟩ := c2.wi_at
      have eL : ((s.filled K).flags (wiS s.wi n i)).wi.length = L := hL.out i
      rw [eL] at c34
      have iL : n + i < L := by omega
      have SN : Hid (SetI w (wr.setCell ⟨kc, n + i, Option.none⟩ (.bool (decide (0 < i)))) b S s K n (i + 1)) := Lib.hid (by
        obtain ⟨S3, c3, m3⟩ := T (n + i) (decide (0 < i))
        exact ⟨S3, c3, m2.trans m3⟩)
      have lt := bk.lt
      have fz := bk.frozen
      have hx : wr.cell? ⟨kc, n + i, Option.none⟩ = some (.bool (((s.filled K).flags (wiS s.wi n i)).wi[n + i]'(by rw [eL]; exact iL))) := bk.bools (List.getElem?_eq_getElem _)
      clear HI c2 bk T m2
      go_wp2
      go_roundw
      case rel => exact ⟨i + 1, by omega, by go_num, SN⟩
      case measure => simp [intOf]; omega
    · obtain rfl : i = K := by omega
      have RE := Lib.hid (FIN.out wr HI.out)
      clear HI FIN
      go_wp2
      go_ret2
      exact ⟨rfl, RE.out⟩

set_option maxHeartbeats 1000000 in
theorem take_no (hC : Cr w b S s) (k : Int) (hm : s.mv = false) (hk : s.cf.nu - s.yu < k) :
    Calls Tryz.prog 86 #[ptr b, .int .i64 k] w fun e w' => e = .returned (.tuple #[.int .i64 0, .bool false]) ∧ Below w.heap.size w w' := by
  have HC := Lib.hid hC
  obtain ⟨y, c14, hr⟩ := room_co hC
  have HR := Lib.hid hr
  have HM := Lib.hid hm
  clear hC hr hm
  generalize s.cf.nu - s.yu = r at *
  go_enter Tryz.func86, Tryz.ntmps86
  go_wp2_with fail
  refine HR.out.mono ?_
  rintro e w1 ⟨rfl, b1⟩
  obtain ⟨P, own, h0, _, hc, _⟩ := (HC.out.keep b1).cell
  have c21 : w1.cell? ⟨b, 21, Option.none⟩ = some (.bool s.mv) := hc 21
  rw [HM.out] at c21
  have B1 := Lib.hid b1
  clear h0 hc b1 HR HC c14
  go_wp2
  go_ret2
  exact ⟨rfl, B1.out⟩

set_option maxHeartbeats 1000000 in
theorem take_yes (hC : Cr w b S s) (k : Int) (hm : s.mv = false) (k1 : 1 ≤ k) (hk : k ≤ s.cf.nu - s.yu) :
    Calls Tryz.prog 86 #[ptr b, .int .i64 k] w fun e w' => e = .returned (.tuple #[.int .i64 (hAt s.cf.nu 1 s.yn + s.yu), .bool true]) ∧ CoR w b S (s.took k) w' := by
  have HC := Lib.hid hC
  obtain ⟨y, c14, hr⟩ := room_co hC
  have HR := Lib.hid hr
  have HM := Lib.hid hm
  have HK := Lib.hid hk
  have HK1 := Lib.hid k1
  clear hC hr hm
  generalize hR : s.cf.nu - s.yu = r at *
  have hR := Lib.hid hR
  go_enter Tryz.func86, Tryz.ntmps86
  go_wp2_with fail
  refine HR.out.mono ?_
  rintro e w1 ⟨rfl, b1⟩
  have K1 := HC.out.keep b1
  obtain ⟨P, own, h0, _, hc, _⟩ := K1.cell
  have c21 : w1.cell? ⟨b, 21, Option.none⟩ = some (.bool s.mv) := hc 21
  rw [HM.out] at c21
  have B1 := Lib.hid b1
  have ht := settle_co K1 k HK1.out (by rw [hR.out]; exact HK.out)
  have HT := Lib.hid ht
  clear h0 hc b1 HR HC c14 K1 ht
  go_wp2_with fail
  refine HT.out.mono ?_
  rintro e w2 ⟨rfl, r2⟩
  have R2 := Lib.hid (r2.pre B1.out)
  clear r2 HT c21
  go_wp2
  go_ret2
  exact ⟨rfl, R2.out⟩
end
end Go.Proofs.YthmhehehomieiaaGreat

/- Contracts of Make. -/
namespace Go.Proofs.YthmhehehomieiaaGreat
open Go.RowKit

section
variable {w : World} {b : Nat} {S : Nat → Prop} {s : Co}

set_option maxHeartbeats 1000000 in
theorem make_none (h p q : Int) (w : World) :
    Calls Tryz.prog 33 #[.pointer Option.none, .int .i64 h, .int .i64 p, .int .i64 q] w fun e w' => e = .returned (.int .i64 1) ∧ w = w' := by
  go_enter Tryz.func33, Tryz.ntmps33
  go_wp2_with fail
  refine (handle_none _ _).mono ?_
  rintro e w1 ⟨rfl, rfl⟩
  go_wp2
  go_ret
  exact ⟨rfl, rfl⟩

set_option maxHeartbeats 1000000 in
theorem make_no_h (hC : Cr w b S s) (h p q : Int) (e0 : s.has h = false) :
    Calls Tryz.prog 33 #[ptr b, .int .i64 h, .int .i64 p, .int .i64 q] w fun e w' => e = .returned (.int .i64 3) ∧ w = w' := by
  have H := handle_any hC h
  have e2 := (Co.has_no e0).2.1
  have e3 := (Co.has_no e0).2.2
  rw [e2, e3] at H
  have H := Lib.hid H
  clear e0 e2 e3 hC
  go_enter Tryz.func33, Tryz.ntmps33
  go_wp2_with fail
  refine H.out.mono ?_
  rintro e w1 ⟨rfl, rfl⟩
  clear H
  go_wp2
  go_ret
  exact ⟨rfl, rfl⟩

set_option maxHeartbeats 2000000 in
theorem make_size (hC : Cr w b S s) (h p q : Int) (e0 : s.has h = true) (hs : p < 0 ∨ q < 0 ∨ s.cf.lg - q < p) (q1 : q ≤ 9223372036854775807) :
    Calls Tryz.prog 33 #[ptr b, .int .i64 h, .int .i64 p, .int .i64 q] w fun e w' => e = .returned (.int .i64 6) ∧ w = w' := by
  have H := handle_any hC h
  have e3 := Co.hE_yes e0
  rw [e3] at H
  have H := Lib.hid H
  have may := hC.may
  have l0 := may.lg0
  have l1 := may.lg1
  obtain ⟨P, own, h0, _, hc, _⟩ := hC.cell
  have c8 : w.cell? ⟨b, 8, Option.none⟩ = some (.int .i64 s.cf.lg) := hc 8
  clear e0 e3 hC may h0 hc
  generalize s.cf.lg = lg at *
  by_cases p0 : p < 0
  · clear hs
    go_enter Tryz.func33, Tryz.ntmps33
    go_wp2_with fail
    refine H.out.mono ?_
    rintro e w1 ⟨rfl, rfl⟩
    clear H
    go_wp2
    go_ret
    exact ⟨rfl, rfl⟩
  · by_cases q0 : q < 0
    · clear hs
      go_enter Tryz.func33, Tryz.ntmps33
      go_wp2_with fail
      refine H.out.mono ?_
      rintro e w1 ⟨rfl, rfl⟩
      clear H
      go_wp2
      go_ret
      exact ⟨rfl, rfl⟩
    · have hw : IntKind.i64.wrap (lg - q) = lg - q := IntWalk.i64_in _ (by omega)
      have hs : lg - q < p := by omega
      go_enter Tryz.func33, Tryz.ntmps33
      go_wp2_with fail
      refine H.out.mono ?_
      rintro e w1 ⟨rfl, rfl⟩
      clear H
      go_wp2
      go_ret
      exact ⟨rfl, rfl⟩

/-- Where the next object stands. -/
def Co.next (s : Co) : Int := hAt s.cf.nu 1 s.yn + s.yu
/-- What is left when an object has been made. -/
def Co.made (s : Co) (h p q : Int) : Co :=
  (((s.took (p + q + 2)).wrote (madeW s.ws s.next (p + q) (wordI (p + q) p 0 s.par false false false))).did (s.d.al + 1) (s.d.wd + (p + q + 2))).put (s.hs.set h.toNat s.next)

set_option maxHeartbeats 4000000 in
theorem make_room (hC : Cr w b S s) (h p q : Int) (e0 : s.has h = true) (p0 : 0 ≤ p) (q0 : 0 ≤ q) (hl : p ≤ s.cf.lg - q) (hm : s.mv = false) (hr : s.cf.nu - s.yu < p + q + 2) :
    Calls Tryz.prog 33 #[ptr b, .int .i64 h, .int .i64 p, .int .i64 q] w fun e w' => e = .returned (.int .i64 7) ∧ Below w.heap.size w w' := by
  have H := handle_any hC h
  have e3 := Co.hE_yes e0
  rw [e3] at H
  have H := Lib.hid H
  have may := hC.may
  have l0 := may.lg0
  have l1 := may.lg1
  obtain ⟨P, own, h0, _, hc, _⟩ := hC.cell
  have c8 : w.cell? ⟨b, 8, Option.none⟩ = some (.int .i64 s.cf.lg) := hc 8
  have c19 : w.cell? ⟨b, 19, Option.none⟩ = some (.int .i64 s.par) := hc 19
  have HC := Lib.hid hC
  have HR := Lib.hid hr
  have HM := Lib.hid hm
  clear e0 e3 hC may h0 hc hr hm
  generalize s.cf.lg = lg at *
  generalize s.par = y at *
  have hw : IntKind.i64.wrap (lg - q) = lg - q := IntWalk.i64_in _ (by omega)
  have hw2 : IntKind.i64.wrap (p + q) = p + q := IntWalk.i64_in _ (by omega)
  have z0 : 0 ≤ p + q := by omega
  have z1 : p + q ≤ 64 := by omega
  go_enter Tryz.func33, Tryz.ntmps33
  go_wp2_with fail
  refine H.out.mono ?_
  rintro e w1 ⟨rfl, rfl⟩
  clear H
  go_wp2_with fail
  refine (oWords_any _ _ _ _ _ _ _ _ z0 z1).mono ?_
  rintro e w1 ⟨rfl, b1⟩
  have b1' := below_alloc_trans _ b1
  have k1 := HC.out.keep b1'
  have HT := Lib.hid (take_no k1 (p + q + 2) HM.out HR.out)
  have B1 := Lib.hid b1'
  clear b1 b1' k1 c8 c19
  go_wp2_with fail
  refine HT.out.mono ?_
  rintro e w2 ⟨rfl, b2⟩
  have B2 := Lib.hid (below_trans B1.out b2)
  clear HT b2 B1
  go_wp2
  go_ret
  exact ⟨rfl, B2.out⟩

set_option maxHeartbeats 8000000 in
set_option maxRecDepth 100000 in
theorem make_yes_c (hC : Cr w b S s) (h p q : Int) (e0 : s.has h = true) (p0 : 0 ≤ p) (q0 : 0 ≤ q) (hl : p ≤ s.cf.lg - q) (hm : s.mv = false) (hr : p + q + 2 ≤ s.cf.nu - s.yu) (hy : s.par = 0 ∨ s.par = 1)
    (ha : 0 ≤ s.next) (hw : s.next + (p + q + 2) ≤ s.ws.length) (a0 : 0 ≤ s.d.al) (a1 : s.d.al ≤ 4611686018427387904) (d0 : 0 ≤ s.d.wd) (d1 : s.d.wd ≤ 4611686018427387904) :
    Calls Tryz.prog 33 #[ptr b, .int .i64 h, .int .i64 p, .int .i64 q] w fun e w' => e = .returned (.int .i64 0) ∧ CoR w b S (s.made h p q) w' := by
  have H := handle_any hC h
  have e3 := Co.hE_yes e0
  rw [e3] at H
  have H := Lib.hid H
  have may := hC.may
  have l0 := may.lg0
  have l1 := may.lg1
  obtain ⟨P, own, h0, _, hc, _⟩ := hC.cell
  have c8 : w.cell? ⟨b, 8, Option.none⟩ = some (.int .i64 s.cf.lg) := hc 8
  have c19 : w.cell? ⟨b, 19, Option.none⟩ = some (.int .i64 s.par) := hc 19
  have W0 := Lib.hid hC.way
  have HR := Lib.hid hr
  have HM := Lib.hid hm
  obtain ⟨i, hi, hi2, _, _⟩ := Co.has_yes e0
  have hit : h.toNat = i := by omega
  have HI := Lib.hid (And.intro hi (And.intro hit hi2))
  have HL := Lib.hid hw
  have HG : Hid (goodB (p + q) p 0 s.par = true) := Lib.hid ((goodB_iff ..).2 (by omega))
  clear e0 e3 may h0 hc hr hm hw hi hi2 hit
  have hlg : s.cf.lg = s.cf.lg := rfl
  have hw : IntKind.i64.wrap (s.cf.lg - q) = s.cf.lg - q := IntWalk.i64_in _ (by omega)
  have hw2 : IntKind.i64.wrap (p + q) = p + q := IntWalk.i64_in _ (by omega)
  have hw3 : IntKind.i64.wrap (s.d.al + 1) = s.d.al + 1 := IntWalk.i64_in _ (by omega)
  have hw4 : IntKind.i64.wrap (s.d.wd + (p + q + 2)) = s.d.wd + (p + q + 2) := IntWalk.i64_in _ (by omega)
  have z0 : 0 ≤ p + q := by omega
  have z1 : p + q ≤ 64 := by omega
  clear hlg hy
  go_enter Tryz.func33, Tryz.ntmps33
  go_wp2_with fail
  refine H.out.mono ?_
  rintro e w1 ⟨rfl, rfl⟩
  clear H hC
  go_wp2_with fail
  refine (oWords_any _ _ _ _ _ _ _ _ z0 z1).mono ?_
  rintro e w1 ⟨rfl, b1⟩
  have K1 := Lib.hid ((W0.out.box (.cells #[.int .i64 (p + q), .int .i64 p, .int .i64 0, .int .i64 s.par, .bool false, .bool false, .bool false] 93)).keep b1)
  have X1 := Lib.hid ((Blk.new w #[.int .i64 (p + q), .int .i64 p, .int .i64 0, .int .i64 s.par, .bool false, .bool false, .bool false] 93).keep b1)
  clear b1 c8 c19
  have HT := Lib.hid (K1.out.call (R := fun e => e = .returned (.tuple #[.int .i64 s.next, .bool true])) fun S k => take_yes k (p + q + 2) HM.out (by omega) HR.out)
  go_wp2_with fail
  refine HT.out.mono ?_
  rintro e w2 ⟨rfl, k2, kp2⟩
  have K2 := Lib.hid (k2.keep (below_drew w2))
  have x2 := X1.out.kp kp2 (.inr rfl)
  have X2 := Lib.hid x2
  obtain ⟨S2, C2, M2, Z2⟩ := K2.out.is
  obtain ⟨a, c13, hmk⟩ := make_co C2 s.next (p + q) p s.par HG.out ha HL.out
  have HMk := Lib.hid hmk
  have M2 := Lib.hid M2
  have Z2 := Lib.hid Z2
  have d13 : w2.cell? ⟨b, 13, Option.none⟩ = some (arP a) := c13
  obtain ⟨x0, x1, x2', x3, x4, x5, x6, xf⟩ := x2.seven
  clear HT k2 kp2 K1 X1 x2 hmk C2 c13
  go_wp2
  go_still_tail 6, (by kernel_rfl)
  change wpList _ _ _ _ _ w2.drew
  clear d13 x0 x1 x2' x3 x4 x5 x6 xf
  go_wp2_with fail
  refine HMk.out.mono ?_
  rintro e w3 ⟨rfl, r3⟩
  have k3 := (K2.out.after M2.out Z2.out r3).1
  clear HMk r3 M2 Z2 K2 X2
  obtain ⟨S3, C3, M3, Z3⟩ := k3.is
  obtain ⟨P3, own3, h3, _, hc, hf, _⟩ := C3.cell
  have c26 : w3.cell? ⟨b, 26, Option.none⟩ = some (.int .i64 s.d.al) := hc 26
  have c27 : w3.cell? ⟨b, 27, Option.none⟩ = some (.int .i64 s.d.wd) := hc 27
  obtain ⟨S4, C4, M4⟩ := C3.did (s.d.al + 1) (s.d.wd + (p + q + 2))
  obtain ⟨t, c18, ht⟩ := tset_co C4 i HI.out.2.2 s.next
  have K3 := Lib.hid k3
  have M3 := Lib.hid M3
  have Z3 := Lib.hid Z3
  have M4 := Lib.hid M4
  rw [← HI.out.1] at ht
  have HT := Lib.hid ht
  clear h3 hc k3 C3 C4 ht
  go_wp2_with fail
  refine HT.out.mono ?_
  rintro e w5 ⟨rfl, r5⟩
  obtain ⟨S5, C5, M5⟩ := r5
  have RE : Hid (CoR w b S (s.made h p q) w5) := Lib.hid ⟨S5, by unfold Co.made; rw [HI.out.2.1]; exact C5, (M3.out.trans M4.out).trans M5⟩
  clear C5 M5 HT c18 c26 c27 hf M3 M4 Z3 K3
  go_wp2
  go_ret
  exact ⟨rfl, RE.out⟩
end
end Go.Proofs.YthmhehehomieiaaGreat

/- Contracts of Read, Write, Shape; of Clear, Copy, Same, Nil. -/
namespace Go.Proofs.YthmhehehomieiaaGreat
open Go.RowKit

/-- What else stands in a head. -/
structure HdP where
  (g y : Int)
  (f1 f2 f3 : Bool)

/-- A handle holds an object: where it stands, how many fields it has, how many of them are references. -/
structure Ob (s : Co) (h x z p : Int) (t : HdP) : Prop where
  has : s.has h = true
  at_ : s.at_ h = x
  x0 : 0 < x
  word : s.ws[x.toNat]? = some (wordI z p t.g t.y t.f1 t.f2 t.f3)
  good : goodB z p t.g t.y = true

section
variable {w : World} {b : Nat} {S : Nat → Prop} {s : Co} {h x z p : Int} {t : HdP}

theorem Ob.nums (o : Ob s h x z p t) : 0 ≤ p ∧ p ≤ z ∧ z ≤ 64 := by
  obtain ⟨h0, h1, h2, h3, _⟩ := (goodB_iff ..).1 o.good
  omega

abbrev Ob.v (z p : Int) (t : HdP) : Value := hdV z p t.g t.y t.f1 t.f2 t.f3

theorem held_ob (hC : Cr w b S s) (o : Ob s h x z p t) :
    Calls Tryz.prog 89 #[ptr b, .int .i64 h] w fun e w' => e = .returned (.tuple #[.int .i64 x, Ob.v z p t, .int .i64 0]) ∧ CoR w b S s w' :=
  held_yes hC h o.has x z p t.g t.y t.f1 t.f2 t.f3 o.at_ o.x0 o.word o.good

/-- What held says where there is no object. -/
def Wrong (pv : Value) (h E : Int) (w : World) : Prop := Calls Tryz.prog 89 #[pv, .int .i64 h] w fun e w' => e = .returned (.tuple #[.int .i64 0, noV, .int .i64 E]) ∧ Below w.heap.size w w'

theorem wrong_none (h : Int) (w : World) : Wrong (.pointer Option.none) h 1 w := held_none h w
theorem wrong_no (hC : Cr w b S s) (e : s.has h = false) : Wrong (ptr b) h 3 w := held_no hC h e
theorem wrong_nil (hC : Cr w b S s) (e : s.has h = true) (a : s.at_ h = 0) : Wrong (ptr b) h 4 w := held_nil hC h e a

set_option maxHeartbeats 1000000 in
theorem read_wrong {pv : Value} (h n E : Int) (hE : E ≠ 0) (w : World) (H : Wrong pv h E w) :
    Calls Tryz.prog 37 #[pv, .int .i64 h, .int .i64 n] w fun e w' => e = .returned (.tuple #[.int .u64 0, .int .i64 E]) ∧ Below w.heap.size w w' := by
  have H := Lib.hid H
  unfold Wrong at H
  go_enter Tryz.func37, Tryz.ntmps37
  go_wp2_with fail
  refine H.out.mono ?_
  rintro e w1 ⟨rfl, b1⟩
  have B1 := Lib.hid (b1.alloc b1.size hdO)
  clear b1 H
  go_wp2
  go_ret2
  exact ⟨rfl, B1.out⟩

set_option maxHeartbeats 1000000 in
theorem write_wrong {pv : Value} (h n v E : Int) (hE : E ≠ 0) (w : World) (H : Wrong pv h E w) :
    Calls Tryz.prog 40 #[pv, .int .i64 h, .int .i64 n, .int .u64 v] w fun e w' => e = .returned (.int .i64 E) ∧ Below w.heap.size w w' := by
  have H := Lib.hid H
  unfold Wrong at H
  go_enter Tryz.func40, Tryz.ntmps40
  go_wp2_with fail
  refine H.out.mono ?_
  rintro e w1 ⟨rfl, b1⟩
  have B1 := Lib.hid (b1.alloc b1.size hdO)
  clear b1 H
  go_wp2
  go_ret
  exact ⟨rfl, B1.out⟩

set_option maxHeartbeats 1000000 in
theorem set_wrong {pv : Value} (h n f E : Int) (hE : E ≠ 0) (w : World) (H : Wrong pv h E w) :
    Calls Tryz.prog 41 #[pv, .int .i64 h, .int .i64 n, .int .i64 f] w fun e w' => e = .returned (.int .i64 E) ∧ Below w.heap.size w w' := by
  have H := Lib.hid H
  unfold Wrong at H
  go_enter Tryz.func41, Tryz.ntmps41
  go_wp2_with fail
  refine H.out.mono ?_
  rintro e w1 ⟨rfl, b1⟩
  have B1 := Lib.hid (b1.alloc b1.size hdO)
  clear b1 H
  go_wp2
  go_ret
  exact ⟨rfl, B1.out⟩

set_option maxHeartbeats 1000000 in
theorem get_wrong {pv : Value} (t h n E : Int) (hE : E ≠ 0) (w : World) (H : Wrong pv h E w) :
    Calls Tryz.prog 35 #[pv, .int .i64 t, .int .i64 h, .int .i64 n] w fun e w' => e = .returned (.int .i64 E) ∧ Below w.heap.size w w' := by
  have H := Lib.hid H
  unfold Wrong at H
  go_enter Tryz.func35, Tryz.ntmps35
  go_wp2_with fail
  refine H.out.mono ?_
  rintro e w1 ⟨rfl, b1⟩
  have B1 := Lib.hid (b1.alloc b1.size hdO)
  clear b1 H
  go_wp2
  go_ret
  exact ⟨rfl, B1.out⟩

set_option maxHeartbeats 2000000 in
set_option maxRecDepth 100000 in
theorem read_field (hC : Cr w b S s) (o : Ob s h x z p t) (n : Int) (hb : scaB z p n = false) :
    Calls Tryz.prog 37 #[ptr b, .int .i64 h, .int .i64 n] w fun e w' => e = .returned (.tuple #[.int .u64 0, .int .i64 5]) ∧ CoR w b S s w' := by
  have HB := Lib.hid hb
  clear hb
  have K0 := Lib.hid hC.way
  have H := Lib.hid (held_ob hC o)
  have N := o.nums
  have O := Lib.hid o
  obtain ⟨n0, n1, n2⟩ := N
  clear hC o
  go_enter Tryz.func37, Tryz.ntmps37
  go_wp2_with fail
  refine H.out.mono ?_
  rintro e w1 ⟨rfl, r1⟩
  have k1 := (K0.out.after (Mv.of_below (Below.refl _ _)) (fun _ e => e.elim) r1).1
  have K1 := Lib.hid (k1.box (.cells #[.int .i64 z, .int .i64 p, .int .i64 t.g, .int .i64 t.y, .bool t.f1, .bool t.f2, .bool t.f3] 93))
  have X1 := Lib.hid (Blk.new w1 #[.int .i64 z, .int .i64 p, .int .i64 t.g, .int .i64 t.y, .bool t.f1, .bool t.f2, .bool t.f3] 93)
  clear H r1 k1 K0
  have HS := Lib.hid (fun w => isSca_any z p t.g t.y n t.f1 t.f2 t.f3 w n0 n1 n2)
  go_wp2_with fail
  refine (HS.out _).mono ?_
  rw [HB.out]
  rintro e w2 ⟨rfl, b2⟩
  have K2 := Lib.hid (K1.out.keep b2)
  have X2 := Lib.hid (X1.out.keep b2)
  clear b2 K1 X1 HS
  go_wp2
  go_ret2
  exact ⟨rfl, K2.out.done⟩

theorem scaB_iff {z p n : Int} : scaB z p n = true ↔ 0 ≤ n ∧ n < z - p := by unfold scaB; rw [Bool.and_eq_true, decide_eq_true_eq, decide_eq_true_eq]
theorem refB_iff {p n : Int} : refB p n = true ↔ 0 ≤ n ∧ n < p := by unfold refB; rw [Bool.and_eq_true, decide_eq_true_eq, decide_eq_true_eq]

set_option maxHeartbeats 4000000 in
set_option maxRecDepth 100000 in
theorem read_yes (hC : Cr w b S s) (o : Ob s h x z p t) (n v : Int) (hb : scaB z p n = true) (hv : s.ws[(x + (2 + (p + n))).toNat]? = some v) :
    Calls Tryz.prog 37 #[ptr b, .int .i64 h, .int .i64 n] w fun e w' => e = .returned (.tuple #[.int .u64 v, .int .i64 0]) ∧ CoR w b S s w' := by
  have HB := Lib.hid hb
  have m := scaB_iff.1 hb
  obtain ⟨m0, m1⟩ := m
  have HV := Lib.hid hv
  clear hb hv
  have K0 := Lib.hid hC.way
  have H := Lib.hid (held_ob hC o)
  have N := o.nums
  have O := Lib.hid o
  obtain ⟨n0, n1, n2⟩ := N
  clear hC o
  go_enter Tryz.func37, Tryz.ntmps37
  go_wp2_with fail
  refine H.out.mono ?_
  rintro e w1 ⟨rfl, r1⟩
  have k1 := (K0.out.after (Mv.of_below (Below.refl _ _)) (fun _ e => e.elim) r1).1
  have K1 := Lib.hid (k1.box (.cells #[.int .i64 z, .int .i64 p, .int .i64 t.g, .int .i64 t.y, .bool t.f1, .bool t.f2, .bool t.f3] 93))
  have X1 := Lib.hid (Blk.new w1 #[.int .i64 z, .int .i64 p, .int .i64 t.g, .int .i64 t.y, .bool t.f1, .bool t.f2, .bool t.f3] 93)
  clear H r1 k1 K0
  have HS := Lib.hid (fun w => isSca_any z p t.g t.y n t.f1 t.f2 t.f3 w n0 n1 n2)
  go_wp2_with fail
  refine (HS.out _).mono ?_
  rw [HB.out]
  rintro e w2 ⟨rfl, b2⟩
  have K2 := Lib.hid (K1.out.keep b2)
  have X2 := Lib.hid (X1.out.keep b2)
  clear b2 K1 X1 HS
  have hw : IntKind.i64.wrap (p + n) = p + n := IntWalk.i64_in _ (by omega)
  obtain ⟨S2, C2, M2, Z2⟩ := K2.out.is
  obtain ⟨a, c13, hq⟩ := field_co2 (C2.keep (below_drew w2)) x (p + n) v (by omega) (by omega) (by have := O.out.x0; omega) HV.out
  have HQ := Lib.hid hq
  have M2 := Lib.hid M2
  have Z2 := Lib.hid Z2
  have XD := X2.out.drew
  obtain ⟨x0, x1, x2', x3, x4, x5, x6, xf⟩ := X2.out.seven
  clear C2 hq x0 x2' x3 x4 x5 x6 xf
  go_wp2
  clear x1
  have x1 := XD.cell 1
  clear XD
  go_region_held3 (fun w' => w'.cell? ⟨b, 13, Option.none⟩ = some (arP a) ∧ w'.cell? ⟨w1.heap.size, 1, Option.none⟩ = some (.int .i64 p)) (exact ⟨c13, x1⟩) (first
    | (go_at_call 91; refine HQ.out.mono ?_; rintro e w3 ⟨rfl, r3, c13⟩; have ka := ((K2.out.keep (below_drew w2)).after (M2.out.post (below_drew w2)) Z2.out r3); have x1 := ((X2.out.drew).kp ka.2 (.inr rfl)).cell 1; have RE := Lib.hid ka.1.done; clear ka r3))
  all_goals
    go_wp2
    go_ret2
    exact ⟨rfl, RE.out⟩

set_option maxHeartbeats 2000000 in
set_option maxRecDepth 100000 in
theorem write_field (hC : Cr w b S s) (o : Ob s h x z p t) (n v : Int) (hb : scaB z p n = false) :
    Calls Tryz.prog 40 #[ptr b, .int .i64 h, .int .i64 n, .int .u64 v] w fun e w' => e = .returned (.int .i64 5) ∧ CoR w b S s w' := by
  have HB := Lib.hid hb
  clear hb
  have K0 := Lib.hid hC.way
  have H := Lib.hid (held_ob hC o)
  have N := o.nums
  have O := Lib.hid o
  obtain ⟨n0, n1, n2⟩ := N
  clear hC o
  go_enter Tryz.func40, Tryz.ntmps40
  go_wp2_with fail
  refine H.out.mono ?_
  rintro e w1 ⟨rfl, r1⟩
  have k1 := (K0.out.after (Mv.of_below (Below.refl _ _)) (fun _ e => e.elim) r1).1
  have K1 := Lib.hid (k1.box (.cells #[.int .i64 z, .int .i64 p, .int .i64 t.g, .int .i64 t.y, .bool t.f1, .bool t.f2, .bool t.f3] 93))
  have X1 := Lib.hid (Blk.new w1 #[.int .i64 z, .int .i64 p, .int .i64 t.g, .int .i64 t.y, .bool t.f1, .bool t.f2, .bool t.f3] 93)
  clear H r1 k1 K0
  have HS := Lib.hid (fun w => isSca_any z p t.g t.y n t.f1 t.f2 t.f3 w n0 n1 n2)
  go_wp2_with fail
  refine (HS.out _).mono ?_
  rw [HB.out]
  rintro e w2 ⟨rfl, b2⟩
  have K2 := Lib.hid (K1.out.keep b2)
  have X2 := Lib.hid (X1.out.keep b2)
  clear b2 K1 X1 HS
  go_wp2
  go_ret
  exact ⟨rfl, K2.out.done⟩

set_option maxHeartbeats 4000000 in
set_option maxRecDepth 100000 in
theorem write_yes (hC : Cr w b S s) (o : Ob s h x z p t) (n v : Int) (hb : scaB z p n = true) (hv : (x + (2 + (p + n))).toNat < s.ws.length) :
    Calls Tryz.prog 40 #[ptr b, .int .i64 h, .int .i64 n, .int .u64 v] w fun e w' => e = .returned (.int .i64 0) ∧ CoR w b S (s.wrote (s.ws.set (x + (2 + (p + n))).toNat v)) w' := by
  have HB := Lib.hid hb
  have m := scaB_iff.1 hb
  obtain ⟨m0, m1⟩ := m
  have HV := Lib.hid hv
  clear hb hv
  have K0 := Lib.hid hC.way
  have H := Lib.hid (held_ob hC o)
  have N := o.nums
  have O := Lib.hid o
  obtain ⟨n0, n1, n2⟩ := N
  clear hC o
  go_enter Tryz.func40, Tryz.ntmps40
  go_wp2_with fail
  refine H.out.mono ?_
  rintro e w1 ⟨rfl, r1⟩
  have k1 := (K0.out.after (Mv.of_below (Below.refl _ _)) (fun _ e => e.elim) r1).1
  have K1 := Lib.hid (k1.box (.cells #[.int .i64 z, .int .i64 p, .int .i64 t.g, .int .i64 t.y, .bool t.f1, .bool t.f2, .bool t.f3] 93))
  have X1 := Lib.hid (Blk.new w1 #[.int .i64 z, .int .i64 p, .int .i64 t.g, .int .i64 t.y, .bool t.f1, .bool t.f2, .bool t.f3] 93)
  clear H r1 k1 K0
  have HS := Lib.hid (fun w => isSca_any z p t.g t.y n t.f1 t.f2 t.f3 w n0 n1 n2)
  go_wp2_with fail
  refine (HS.out _).mono ?_
  rw [HB.out]
  rintro e w2 ⟨rfl, b2⟩
  have K2 := Lib.hid (K1.out.keep b2)
  have X2 := Lib.hid (X1.out.keep b2)
  clear b2 K1 X1 HS
  have hw : IntKind.i64.wrap (p + n) = p + n := IntWalk.i64_in _ (by omega)
  obtain ⟨S2, C2, M2, Z2⟩ := K2.out.is
  obtain ⟨a, c13, hq⟩ := setField_co (C2.keep (below_drew w2)) x (p + n) v (by omega) (by omega) (by have := O.out.x0; omega) HV.out
  have HQ := Lib.hid hq
  have M2 := Lib.hid M2
  have Z2 := Lib.hid Z2
  obtain ⟨x0, x1, x2', x3, x4, x5, x6, xf⟩ := X2.out.seven
  clear C2 hq X2
  go_wp2
  go_still_tail 10, (by kernel_rfl)
  change wpList _ _ _ _ _ w2.drew
  clear c13 x0 x1 x2' x3 x4 x5 x6 xf
  go_wp2_with fail
  refine HQ.out.mono ?_
  rintro e w3 ⟨rfl, r3⟩
  have RE := Lib.hid ((K2.out.keep (below_drew w2)).after (M2.out.post (below_drew w2)) Z2.out r3).1.done
  clear HQ r3 M2 Z2 K2
  go_wp2
  go_ret
  exact ⟨rfl, RE.out⟩

set_option maxHeartbeats 2000000 in
theorem shape_wrong {pv : Value} (h E : Int) (w : World) (H : Wrong pv h E w) :
    Calls Tryz.prog 34 #[pv, .int .i64 h] w fun e w' => e = .returned (.tuple #[.int .i64 0, .int .i64 0, .int .i64 E]) ∧ Below w.heap.size w w' := by
  have H := Lib.hid H
  unfold Wrong at H
  go_enter Tryz.func34, Tryz.ntmps34
  go_wp2_with fail
  refine H.out.mono ?_
  rintro e w1 ⟨rfl, b1⟩
  have B1 := Lib.hid (b1.alloc b1.size hdO).drew
  clear b1 H
  go_wp2
  go_region
  all_goals
    go_wp2
    refine bodyPost_ret (results_tmp3 rfl _ _ _) rfl ?_
    exact ⟨rfl, B1.out⟩

set_option maxHeartbeats 4000000 in
theorem shape_yes (hC : Cr w b S s) (o : Ob s h x z p t) :
    Calls Tryz.prog 34 #[ptr b, .int .i64 h] w fun e w' => e = .returned (.tuple #[.int .i64 p, .int .i64 (z - p), .int .i64 0]) ∧ CoR w b S s w' := by
  have K0 := Lib.hid hC.way
  have H := Lib.hid (held_ob hC o)
  have N := o.nums
  have O := Lib.hid o
  obtain ⟨n0, n1, n2⟩ := N
  clear hC o
  go_enter Tryz.func34, Tryz.ntmps34
  go_wp2_with fail
  refine H.out.mono ?_
  rintro e w1 ⟨rfl, r1⟩
  have k1 := (K0.out.after (Mv.of_below (Below.refl _ _)) (fun _ e => e.elim) r1).1
  have K1 := Lib.hid (k1.box (.cells #[.int .i64 z, .int .i64 p, .int .i64 t.g, .int .i64 t.y, .bool t.f1, .bool t.f2, .bool t.f3] 93))
  have X1 := Lib.hid (Blk.new w1 #[.int .i64 z, .int .i64 p, .int .i64 t.g, .int .i64 t.y, .bool t.f1, .bool t.f2, .bool t.f3] 93)
  clear H r1 k1 K0
  have hw : IntKind.i64.wrap (z - p) = z - p := IntWalk.i64_in _ (by omega)
  go_wp2
  go_region
  all_goals
    go_wp2
    refine bodyPost_ret (results_tmp3 rfl _ _ _) rfl ?_
    exact ⟨rfl, (K1.out.keep (below_drew _)).done⟩

/-- What handle says where there is no such handle. -/
def NoH (pv : Value) (h E : Int) (w : World) : Prop := Calls Tryz.prog 85 #[pv, .int .i64 h] w fun e w' => e = .returned (.tuple #[.int .i64 0, .int .i64 E]) ∧ w = w'
theorem noH_none (h : Int) (w : World) : NoH (.pointer Option.none) h 1 w := handle_none h w
theorem noH_no (hC : Cr w b S s) (e : s.has h = false) : NoH (ptr b) h 3 w := by
  have H := handle_any hC h
  rwa [(Co.has_no e).2.1, (Co.has_no e).2.2] at H
theorem hand_yes (hC : Cr w b S s) (e : s.has h = true) :
    Calls Tryz.prog 85 #[ptr b, .int .i64 h] w fun e w' => e = .returned (.tuple #[.int .i64 (s.at_ h), .int .i64 0]) ∧ w = w' := by
  have H := handle_any hC h
  rwa [Co.hE_yes e] at H

set_option maxHeartbeats 1000000 in
theorem clear_no {pv : Value} (h E : Int) (hE : E ≠ 0) (w : World) (H : NoH pv h E w) :
    Calls Tryz.prog 44 #[pv, .int .i64 h] w fun e w' => e = .returned (.int .i64 E) ∧ w = w' := by
  have H := Lib.hid H
  unfold NoH at H
  go_enter Tryz.func44, Tryz.ntmps44
  go_wp2_with fail
  refine H.out.mono ?_
  rintro e w1 ⟨rfl, rfl⟩
  clear H
  go_wp2
  go_ret
  exact ⟨rfl, rfl⟩

set_option maxHeartbeats 1000000 in
theorem coCopy_no {pv : Value} (t f E : Int) (hE : E ≠ 0) (w : World) (H : NoH pv f E w) :
    Calls Tryz.prog 42 #[pv, .int .i64 t, .int .i64 f] w fun e w' => e = .returned (.int .i64 E) ∧ w = w' := by
  have H := Lib.hid H
  unfold NoH at H
  go_enter Tryz.func42, Tryz.ntmps42
  go_wp2_with fail
  refine H.out.mono ?_
  rintro e w1 ⟨rfl, rfl⟩
  clear H
  go_wp2
  go_ret
  exact ⟨rfl, rfl⟩

set_option maxHeartbeats 1000000 in
theorem same_no {pv : Value} (a c E : Int) (hE : E ≠ 0) (w : World) (H : NoH pv a E w) :
    Calls Tryz.prog 43 #[pv, .int .i64 a, .int .i64 c] w fun e w' => e = .returned (.tuple #[.bool false, .int .i64 E]) ∧ w = w' := by
  have H := Lib.hid H
  unfold NoH at H
  go_enter Tryz.func43, Tryz.ntmps43
  go_wp2_with fail
  refine H.out.mono ?_
  rintro e w1 ⟨rfl, rfl⟩
  clear H
  go_wp2
  go_ret2
  exact ⟨rfl, rfl⟩

set_option maxHeartbeats 1000000 in
theorem nil_no {pv : Value} (h E : Int) (hE : E ≠ 0) (w : World) (H : NoH pv h E w) :
    Calls Tryz.prog 36 #[pv, .int .i64 h] w fun e w' => e = .returned (.tuple #[.bool false, .int .i64 E]) ∧ w = w' := by
  have H := Lib.hid H
  unfold NoH at H
  go_enter Tryz.func36, Tryz.ntmps36
  go_wp2_with fail
  refine H.out.mono ?_
  rintro e w1 ⟨rfl, rfl⟩
  clear H
  go_wp2
  go_ret2
  exact ⟨rfl, rfl⟩

set_option maxHeartbeats 2000000 in
theorem clear_yes (hC : Cr w b S s) (e0 : s.has h = true) :
    Calls Tryz.prog 44 #[ptr b, .int .i64 h] w fun e w' => e = .returned (.int .i64 0) ∧ CoR w b S (s.put (s.hs.set h.toNat 0)) w' := by
  have H := Lib.hid (hand_yes hC e0)
  obtain ⟨i, hi, hl, _, _⟩ := Co.has_yes e0
  obtain ⟨t, c18, ht⟩ := tset_co hC i hl 0
  rw [← hi] at ht
  rw [show h.toNat = i by omega]
  have HT := Lib.hid ht
  clear hC e0 hi hl ht
  go_enter Tryz.func44, Tryz.ntmps44
  go_wp2_with fail
  refine H.out.mono ?_
  rintro e w1 ⟨rfl, rfl⟩
  clear H
  go_wp2_with fail
  refine HT.out.mono ?_
  rintro e w2 ⟨rfl, r2⟩
  have R2 := Lib.hid r2
  clear HT r2 c18
  go_wp2
  go_ret
  exact ⟨rfl, R2.out⟩

set_option maxHeartbeats 2000000 in
theorem coCopy_yes (hC : Cr w b S s) (f : Int) (e0 : s.has f = true) (e1 : s.has h = true) :
    Calls Tryz.prog 42 #[ptr b, .int .i64 h, .int .i64 f] w fun e w' => e = .returned (.int .i64 0) ∧ CoR w b S (s.put (s.hs.set h.toNat (s.at_ f))) w' := by
  have H := Lib.hid (hand_yes hC e0)
  obtain ⟨i, hi, hl, _, _⟩ := Co.has_yes e1
  obtain ⟨t, c18, ht⟩ := tset_co hC i hl (s.at_ f)
  rw [← hi] at ht
  rw [show h.toNat = i by omega]
  have HT := Lib.hid ht
  clear hC e0 hi hl ht e1
  generalize s.at_ f = x at *
  go_enter Tryz.func42, Tryz.ntmps42
  go_wp2_with fail
  refine H.out.mono ?_
  rintro e w1 ⟨rfl, rfl⟩
  clear H
  go_wp2_with fail
  refine HT.out.mono ?_
  rintro e w2 ⟨rfl, r2⟩
  have R2 := Lib.hid r2
  clear HT r2 c18
  go_wp2
  go_ret
  exact ⟨rfl, R2.out⟩

set_option maxHeartbeats 2000000 in
theorem coCopy_to (hC : Cr w b S s) (f : Int) (e0 : s.has f = true) (e1 : s.has h = false) :
    Calls Tryz.prog 42 #[ptr b, .int .i64 h, .int .i64 f] w fun e w' => e = .returned (.int .i64 3) ∧ w = w' := by
  have H := Lib.hid (hand_yes hC e0)
  obtain ⟨t, c18, ht⟩ := tset_no hC h (s.at_ f) (Co.has_no e1).1
  have HT := Lib.hid ht
  clear hC e0 ht e1
  generalize s.at_ f = x at *
  go_enter Tryz.func42, Tryz.ntmps42
  go_wp2_with fail
  refine H.out.mono ?_
  rintro e w1 ⟨rfl, rfl⟩
  clear H
  go_wp2_with fail
  refine HT.out.mono ?_
  rintro e w2 ⟨rfl, rfl⟩
  clear HT c18
  go_wp2
  go_ret
  exact ⟨rfl, rfl⟩

set_option maxHeartbeats 2000000 in
theorem same_to (hC : Cr w b S s) (f : Int) (e0 : s.has h = true) (e1 : s.has f = false) :
    Calls Tryz.prog 43 #[ptr b, .int .i64 h, .int .i64 f] w fun e w' => e = .returned (.tuple #[.bool false, .int .i64 3]) ∧ w = w' := by
  have H := Lib.hid (hand_yes hC e0)
  have G := noH_no hC e1
  unfold NoH at G
  have G := Lib.hid G
  clear hC e0 e1
  generalize s.at_ h = x at *
  go_enter Tryz.func43, Tryz.ntmps43
  go_wp2_with fail
  refine H.out.mono ?_
  rintro e w1 ⟨rfl, rfl⟩
  clear H
  go_wp2_with fail
  refine G.out.mono ?_
  rintro e w2 ⟨rfl, rfl⟩
  clear G
  go_wp2
  go_ret2
  exact ⟨rfl, rfl⟩

set_option maxHeartbeats 2000000 in
theorem same_yes (hC : Cr w b S s) (f : Int) (e0 : s.has h = true) (e1 : s.has f = true) :
    Calls Tryz.prog 43 #[ptr b, .int .i64 h, .int .i64 f] w fun e w' => e = .returned (.tuple #[.bool (decide (s.at_ h = s.at_ f)), .int .i64 0]) ∧ w = w' := by
  have H := Lib.hid (hand_yes hC e0)
  have G := Lib.hid (hand_yes hC e1)
  clear hC e0 e1
  generalize s.at_ h = x at *
  generalize s.at_ f = y at *
  go_enter Tryz.func43, Tryz.ntmps43
  go_wp2_with fail
  refine H.out.mono ?_
  rintro e w1 ⟨rfl, rfl⟩
  clear H
  go_wp2_with fail
  refine G.out.mono ?_
  rintro e w2 ⟨rfl, rfl⟩
  clear G
  go_wp2
  go_ret2
  exact ⟨by by_cases e : x = y <;> simp [e], rfl⟩

set_option maxHeartbeats 2000000 in
theorem nil_yes (hC : Cr w b S s) (e0 : s.has h = true) :
    Calls Tryz.prog 36 #[ptr b, .int .i64 h] w fun e w' => e = .returned (.tuple #[.bool (decide (s.at_ h = 0)), .int .i64 0]) ∧ w = w' := by
  have H := Lib.hid (hand_yes hC e0)
  clear hC e0
  generalize s.at_ h = x at *
  go_enter Tryz.func36, Tryz.ntmps36
  go_wp2_with fail
  refine H.out.mono ?_
  rintro e w1 ⟨rfl, rfl⟩
  clear H
  go_wp2
  go_ret2
  exact ⟨by by_cases e : x = 0 <;> simp [e], rfl⟩

end
end Go.Proofs.YthmhehehomieiaaGreat

/- Contracts of Get, Set where no cycle goes on. -/
namespace Go.Proofs.YthmhehehomieiaaGreat
open Go.RowKit

section
variable {w : World} {b : Nat} {S : Nat → Prop} {s : Co} {h x z p : Int} {t : HdP}

set_option maxHeartbeats 2000000 in
set_option maxRecDepth 100000 in
theorem get_to (hC : Cr w b S s) (o : Ob s h x z p t) (d n : Int) (e1 : s.has d = false) :
    Calls Tryz.prog 35 #[ptr b, .int .i64 d, .int .i64 h, .int .i64 n] w fun e w' => e = .returned (.int .i64 3) ∧ CoR w b S s w' := by
  have E1 := Lib.hid e1
  clear e1
  have K0 := Lib.hid hC.way
  have H := Lib.hid (held_ob hC o)
  have N := o.nums
  have O := Lib.hid o
  obtain ⟨n0, n1, n2⟩ := N
  clear hC o
  go_enter Tryz.func35, Tryz.ntmps35
  go_wp2_with fail
  refine H.out.mono ?_
  rintro e w1 ⟨rfl, r1⟩
  have k1 := (K0.out.after (Mv.of_below (Below.refl _ _)) (fun _ e => e.elim) r1).1
  have K1 := Lib.hid (k1.box (.cells #[.int .i64 z, .int .i64 p, .int .i64 t.g, .int .i64 t.y, .bool t.f1, .bool t.f2, .bool t.f3] 93))
  have X1 := Lib.hid (Blk.new w1 #[.int .i64 z, .int .i64 p, .int .i64 t.g, .int .i64 t.y, .bool t.f1, .bool t.f2, .bool t.f3] 93)
  clear H r1 k1 K0
  have HG := Lib.hid (fun S (k : Cr (w1.alloc (.cells #[.int .i64 z, .int .i64 p, .int .i64 t.g, .int .i64 t.y, .bool t.f1, .bool t.f2, .bool t.f3] 93)) b S s) => show _ from noH_no k E1.out)
  obtain ⟨S1, C1, _⟩ := K1.out.cr
  have G := Lib.hid (HG.out S1 C1)
  clear C1 HG
  go_wp2_with fail
  refine G.out.mono ?_
  rintro e w2 ⟨rfl, rfl⟩
  clear G
  go_wp2
  go_ret
  exact ⟨rfl, K1.out.done⟩

set_option maxHeartbeats 2000000 in
set_option maxRecDepth 100000 in
theorem get_field (hC : Cr w b S s) (o : Ob s h x z p t) (d n : Int) (e1 : s.has d = true) (hb : refB p n = false) :
    Calls Tryz.prog 35 #[ptr b, .int .i64 d, .int .i64 h, .int .i64 n] w fun e w' => e = .returned (.int .i64 5) ∧ CoR w b S s w' := by
  have E1 := Lib.hid e1
  have HB := Lib.hid hb
  clear e1 hb
  have K0 := Lib.hid hC.way
  have H := Lib.hid (held_ob hC o)
  have N := o.nums
  have O := Lib.hid o
  obtain ⟨n0, n1, n2⟩ := N
  clear hC o
  go_enter Tryz.func35, Tryz.ntmps35
  go_wp2_with fail
  refine H.out.mono ?_
  rintro e w1 ⟨rfl, r1⟩
  have k1 := (K0.out.after (Mv.of_below (Below.refl _ _)) (fun _ e => e.elim) r1).1
  have K1 := Lib.hid (k1.box (.cells #[.int .i64 z, .int .i64 p, .int .i64 t.g, .int .i64 t.y, .bool t.f1, .bool t.f2, .bool t.f3] 93))
  have X1 := Lib.hid (Blk.new w1 #[.int .i64 z, .int .i64 p, .int .i64 t.g, .int .i64 t.y, .bool t.f1, .bool t.f2, .bool t.f3] 93)
  clear H r1 k1 K0
  have HG := Lib.hid (fun S (k : Cr (w1.alloc (.cells #[.int .i64 z, .int .i64 p, .int .i64 t.g, .int .i64 t.y, .bool t.f1, .bool t.f2, .bool t.f3] 93)) b S s) => show _ from hand_yes k E1.out)
  obtain ⟨S1, C1, _⟩ := K1.out.cr
  have G := Lib.hid (HG.out S1 C1)
  clear C1 HG
  go_wp2_with fail
  refine G.out.mono ?_
  rintro e w2 ⟨rfl, rfl⟩
  clear G
  have HS := Lib.hid (fun w => isRef_any z p t.g t.y n t.f1 t.f2 t.f3 w)
  go_wp2_with fail
  refine (HS.out _).mono ?_
  rw [HB.out]
  rintro e w2 ⟨rfl, b2⟩
  have K2 := Lib.hid (K1.out.keep b2)
  clear b2 K1 X1 HS
  go_wp2
  go_ret
  exact ⟨rfl, K2.out.done⟩

set_option maxHeartbeats 2000000 in
set_option maxRecDepth 100000 in
theorem set_to (hC : Cr w b S s) (o : Ob s h x z p t) (n f : Int) (e1 : s.has f = false) :
    Calls Tryz.prog 41 #[ptr b, .int .i64 h, .int .i64 n, .int .i64 f] w fun e w' => e = .returned (.int .i64 3) ∧ CoR w b S s w' := by
  have E1 := Lib.hid e1
  clear e1
  have K0 := Lib.hid hC.way
  have H := Lib.hid (held_ob hC o)
  have N := o.nums
  have O := Lib.hid o
  obtain ⟨n0, n1, n2⟩ := N
  clear hC o
  go_enter Tryz.func41, Tryz.ntmps41
  go_wp2_with fail
  refine H.out.mono ?_
  rintro e w1 ⟨rfl, r1⟩
  have k1 := (K0.out.after (Mv.of_below (Below.refl _ _)) (fun _ e => e.elim) r1).1
  have K1 := Lib.hid (k1.box (.cells #[.int .i64 z, .int .i64 p, .int .i64 t.g, .int .i64 t.y, .bool t.f1, .bool t.f2, .bool t.f3] 93))
  have X1 := Lib.hid (Blk.new w1 #[.int .i64 z, .int .i64 p, .int .i64 t.g, .int .i64 t.y, .bool t.f1, .bool t.f2, .bool t.f3] 93)
  clear H r1 k1 K0
  have HG := Lib.hid (fun S (k : Cr (w1.alloc (.cells #[.int .i64 z, .int .i64 p, .int .i64 t.g, .int .i64 t.y, .bool t.f1, .bool t.f2, .bool t.f3] 93)) b S s) => show _ from noH_no k E1.out)
  obtain ⟨S1, C1, _⟩ := K1.out.cr
  have G := Lib.hid (HG.out S1 C1)
  clear C1 HG
  go_wp2_with fail
  refine G.out.mono ?_
  rintro e w2 ⟨rfl, rfl⟩
  clear G
  go_wp2
  go_ret
  exact ⟨rfl, K1.out.done⟩

set_option maxHeartbeats 2000000 in
set_option maxRecDepth 100000 in
theorem set_field (hC : Cr w b S s) (o : Ob s h x z p t) (n f : Int) (e1 : s.has f = true) (hb : refB p n = false) :
    Calls Tryz.prog 41 #[ptr b, .int .i64 h, .int .i64 n, .int .i64 f] w fun e w' => e = .returned (.int .i64 5) ∧ CoR w b S s w' := by
  have E1 := Lib.hid e1
  have HB := Lib.hid hb
  clear e1 hb
  have K0 := Lib.hid hC.way
  have H := Lib.hid (held_ob hC o)
  have N := o.nums
  have O := Lib.hid o
  obtain ⟨n0, n1, n2⟩ := N
  clear hC o
  go_enter Tryz.func41, Tryz.ntmps41
  go_wp2_with fail
  refine H.out.mono ?_
  rintro e w1 ⟨rfl, r1⟩
  have k1 := (K0.out.after (Mv.of_below (Below.refl _ _)) (fun _ e => e.elim) r1).1
  have K1 := Lib.hid (k1.box (.cells #[.int .i64 z, .int .i64 p, .int .i64 t.g, .int .i64 t.y, .bool t.f1, .bool t.f2, .bool t.f3] 93))
  have X1 := Lib.hid (Blk.new w1 #[.int .i64 z, .int .i64 p, .int .i64 t.g, .int .i64 t.y, .bool t.f1, .bool t.f2, .bool t.f3] 93)
  clear H r1 k1 K0
  have HG := Lib.hid (fun S (k : Cr (w1.alloc (.cells #[.int .i64 z, .int .i64 p, .int .i64 t.g, .int .i64 t.y, .bool t.f1, .bool t.f2, .bool t.f3] 93)) b S s) => show _ from hand_yes k E1.out)
  obtain ⟨S1, C1, _⟩ := K1.out.cr
  have G := Lib.hid (HG.out S1 C1)
  clear C1 HG
  go_wp2_with fail
  refine G.out.mono ?_
  rintro e w2 ⟨rfl, rfl⟩
  clear G
  have HS := Lib.hid (fun w => isRef_any z p t.g t.y n t.f1 t.f2 t.f3 w)
  go_wp2_with fail
  refine (HS.out _).mono ?_
  rw [HB.out]
  rintro e w2 ⟨rfl, b2⟩
  have K2 := Lib.hid (K1.out.keep b2)
  clear b2 K1 X1 HS
  go_wp2
  go_ret
  exact ⟨rfl, K2.out.done⟩

set_option maxHeartbeats 8000000 in
set_option maxRecDepth 100000 in
theorem get_yes (hC : Cr w b S s) (o : Ob s h x z p t) (d n q : Int) (e1 : s.has d = true) (hb : refB p n = true) (hq : s.ws[(x + (2 + n)).toNat]? = some q) (hw : wrap64 q = q)
    (hf : inH (hAt s.cf.nu 1 (!s.yn)) s.yv q = false) (hp : s.ph ≠ 1) :
    Calls Tryz.prog 35 #[ptr b, .int .i64 d, .int .i64 h, .int .i64 n] w fun e w' => e = .returned (.int .i64 0) ∧ CoR w b S (s.put (s.hs.set d.toNat q)) w' := by
  have E1 := Lib.hid e1
  have HB := Lib.hid hb
  obtain ⟨m0, m1⟩ := refB_iff.1 hb
  have HV := Lib.hid hq
  have HW := Lib.hid hw
  have HF := Lib.hid hf
  have HP := Lib.hid hp
  clear e1 hb hq hw hf hp
  have K0 := Lib.hid hC.way
  have H := Lib.hid (held_ob hC o)
  have N := o.nums
  have O := Lib.hid o
  obtain ⟨n0, n1, n2⟩ := N
  clear hC o
  go_enter Tryz.func35, Tryz.ntmps35
  go_wp2_with fail
  refine H.out.mono ?_
  rintro e w1 ⟨rfl, r1⟩
  have k1 := (K0.out.after (Mv.of_below (Below.refl _ _)) (fun _ e => e.elim) r1).1
  have K1 := Lib.hid (k1.box (.cells #[.int .i64 z, .int .i64 p, .int .i64 t.g, .int .i64 t.y, .bool t.f1, .bool t.f2, .bool t.f3] 93))
  have X1 := Lib.hid (Blk.new w1 #[.int .i64 z, .int .i64 p, .int .i64 t.g, .int .i64 t.y, .bool t.f1, .bool t.f2, .bool t.f3] 93)
  clear H r1 k1 K0
  have HG := Lib.hid (fun S (k : Cr (w1.alloc (.cells #[.int .i64 z, .int .i64 p, .int .i64 t.g, .int .i64 t.y, .bool t.f1, .bool t.f2, .bool t.f3] 93)) b S s) => show _ from hand_yes k E1.out)
  obtain ⟨S1, C1, _⟩ := K1.out.cr
  have G := Lib.hid (HG.out S1 C1)
  clear C1 HG
  go_wp2_with fail
  refine G.out.mono ?_
  rintro e w2 ⟨rfl, rfl⟩
  clear G
  have HS := Lib.hid (fun w => isRef_any z p t.g t.y n t.f1 t.f2 t.f3 w)
  go_wp2_with fail
  refine (HS.out _).mono ?_
  rw [HB.out]
  rintro e w2 ⟨rfl, b2⟩
  have K2 := Lib.hid (K1.out.keep b2)
  clear b2 K1 X1 HS
  obtain ⟨S2, C2, M2, Z2⟩ := K2.out.is
  obtain ⟨a, c13, hq⟩ := field_co C2 x n q (by omega) (by omega) (by have := O.out.x0; omega) HV.out
  have HQ := Lib.hid hq
  have M2 := Lib.hid M2
  have Z2 := Lib.hid Z2
  clear C2 hq
  go_wp2_with fail
  refine HQ.out.mono ?_
  rintro e w3 ⟨rfl, r3⟩
  have K3 := Lib.hid (K2.out.after M2.out Z2.out r3).1
  clear HQ r3 M2 Z2 K2 c13
  obtain ⟨S3, C3, _⟩ := K3.out.cr
  have HM := move_of q w3 (leaving_no C3 q HF.out)
  have HM := Lib.hid HM
  clear C3
  have hw := HW.out
  go_wp2_with fail
  refine HM.out.mono ?_
  rintro e w4 ⟨rfl, b4⟩
  have K4 := Lib.hid (K3.out.keep b4)
  clear HM b4 K3
  obtain ⟨S4, C4, M4, Z4⟩ := K4.out.is
  have HK := Lib.hid (mark_no C4 q HP.out)
  obtain ⟨i, hi, hl, _, _⟩ := Co.has_yes E1.out
  obtain ⟨t', c18, ht⟩ := tset_co C4 i hl q
  rw [← hi] at ht
  rw [show i = d.toNat by omega] at ht
  have HT := Lib.hid ht
  have M4 := Lib.hid M4
  have Z4 := Lib.hid Z4
  clear C4 ht hi hl
  go_wp2_with fail
  refine HK.out.mono ?_
  rintro e w5 ⟨rfl, rfl⟩
  clear HK
  go_wp2_with fail
  refine HT.out.mono ?_
  rintro e w5 ⟨rfl, r5⟩
  have RE := Lib.hid (K4.out.after M4.out Z4.out r5).1.done
  clear HT r5 M4 Z4 K4 c18
  go_wp2
  go_ret
  exact ⟨rfl, RE.out⟩

set_option maxHeartbeats 8000000 in
set_option maxRecDepth 100000 in
theorem set_yes (hC : Cr w b S s) (o : Ob s h x z p t) (n f q : Int) (e1 : s.has f = true) (eq : s.at_ f = q) (q0 : 0 ≤ q) (q1 : q ≤ 9223372036854775807) (x1 : x ≤ 9223372036854775807) (hb : refB p n = true) (hv : (x + (2 + n)).toNat < s.ws.length)
    (ho : s.oldB x = false) :
    Calls Tryz.prog 41 #[ptr b, .int .i64 h, .int .i64 n, .int .i64 f] w fun e w' => e = .returned (.int .i64 0) ∧ CoR w b S (s.wrote (s.ws.set (x + (2 + n)).toNat q)) w' := by
  have E1 := Lib.hid e1
  have EQ := Lib.hid eq
  have HB := Lib.hid hb
  obtain ⟨m0, m1⟩ := refB_iff.1 hb
  have HV := Lib.hid hv
  have HO := Lib.hid ho
  have X1' := Lib.hid x1
  have hw : IntKind.u64.wrap q = q := by unfold IntKind.wrap IntKind.bits; simp; omega
  clear e1 eq hb hv ho x1
  have K0 := Lib.hid hC.way
  have H := Lib.hid (held_ob hC o)
  have N := o.nums
  have O := Lib.hid o
  obtain ⟨n0, n1, n2⟩ := N
  clear hC o
  go_enter Tryz.func41, Tryz.ntmps41
  go_wp2_with fail
  refine H.out.mono ?_
  rintro e w1 ⟨rfl, r1⟩
  have k1 := (K0.out.after (Mv.of_below (Below.refl _ _)) (fun _ e => e.elim) r1).1
  have K1 := Lib.hid (k1.box (.cells #[.int .i64 z, .int .i64 p, .int .i64 t.g, .int .i64 t.y, .bool t.f1, .bool t.f2, .bool t.f3] 93))
  have X1 := Lib.hid (Blk.new w1 #[.int .i64 z, .int .i64 p, .int .i64 t.g, .int .i64 t.y, .bool t.f1, .bool t.f2, .bool t.f3] 93)
  clear H r1 k1 K0
  have HG := Lib.hid (fun S (k : Cr (w1.alloc (.cells #[.int .i64 z, .int .i64 p, .int .i64 t.g, .int .i64 t.y, .bool t.f1, .bool t.f2, .bool t.f3] 93)) b S s) => by have := hand_yes k E1.out; rw [EQ.out] at this; exact this)
  obtain ⟨S1, C1, _⟩ := K1.out.cr
  have G := Lib.hid (HG.out S1 C1)
  clear C1 HG
  go_wp2_with fail
  refine G.out.mono ?_
  rintro e w2 ⟨rfl, rfl⟩
  clear G
  have HS := Lib.hid (fun w => isRef_any z p t.g t.y n t.f1 t.f2 t.f3 w)
  go_wp2_with fail
  refine (HS.out _).mono ?_
  rw [HB.out]
  rintro e w2 ⟨rfl, b2⟩
  have K2 := Lib.hid (K1.out.keep b2)
  clear b2 K1 X1 HS
  obtain ⟨S2, C2, M2, Z2⟩ := K2.out.is
  obtain ⟨a, c13, hq⟩ := setField_co C2 x n q (by omega) (by omega) (by have := O.out.x0; omega) HV.out
  have HQ := Lib.hid hq
  have M2 := Lib.hid M2
  have Z2 := Lib.hid Z2
  clear C2 hq
  go_wp2_with fail
  refine HQ.out.mono ?_
  rintro e w3 ⟨rfl, r3⟩
  have K3 := Lib.hid (K2.out.after M2.out Z2.out r3).1
  clear HQ r3 M2 Z2 K2 c13
  obtain ⟨S3, C3, _⟩ := K3.out.cr
  have HY := Lib.hid (young_any C3 q)
  clear C3
  go_wp2_with fail
  refine HY.out.mono ?_
  generalize (s.wrote (s.ws.set (x + (2 + n)).toNat q)).youngB q = yb
  rintro e w4 ⟨rfl, b4⟩
  have K4 := Lib.hid (K3.out.keep b4)
  clear HY b4 K3
  cases yb
  · go_wp2
    go_ret
    exact ⟨rfl, K4.out.done⟩
  · obtain ⟨S4, C4, _⟩ := K4.out.cr
    have HN := Lib.hid (note_no C4 x (by have := O.out.x0; omega) X1'.out HO.out)
    clear C4
    go_wp2_with fail
    refine HN.out.mono ?_
    rintro e w5 ⟨rfl, b5⟩
    have K5 := Lib.hid (K4.out.keep b5)
    clear HN b5 K4
    go_wp2
    go_ret
    exact ⟨rfl, K5.out.done⟩
end
end Go.Proofs.YthmhehehomieiaaGreat

/- Of no program: a region that draws its order, whose operations each make something (what they yield may hang on the order, but is of a kind known ahead) but for a forced tail: one walk in the order of the text serves. -/
namespace Go.Proofs.YthmhehehomieiaaGreat

/-- What was made so far, by the operations' numbers. -/
abbrev Made := Nat → Option Value
def Made.upd (m : Made) (i : Nat) (v : Value) : Made := fun k => if k = i then some v else m k

theorem Made.upd_comm (m : Made) {i j : Nat} (h : i ≠ j) (v u : Value) : (m.upd i v).upd j u = (m.upd j u).upd i v := by
  funext k
  unfold Made.upd
  by_cases h1 : k = j
  · by_cases h2 : k = i
    · omega
    · rw [if_pos h1, if_neg h2, if_pos h1]
  · rw [if_neg h1]
    by_cases h2 : k = i
    · rw [if_pos h2, if_pos h2]
    · rw [if_neg h2, if_neg h2, if_neg h1]

/-- What is asked once an operation has been carried out: it yields a value of V, and T of the world behind it. -/
def madeUpon (P : Program) (V : Value → Prop) (T : Value → World → Prop) : Result Next → Prop
  | .ok (.value u) w' => V u ∧ T u w'
  | .ok .skip w' => V undef ∧ T undef w'
  | .ok (.enter f args) w' => Calls P f args w' (fun e w'' => ∃ u, e = .returned u ∧ V u ∧ T u w'')
  | _ => False

section
variable (P : Program) (G : Made → World → Prop)
/-- Whatever was made so far, the operation makes something of its kind. -/
def makes (V : Value → Prop) (i : Nat) (o : Oper) (a : Act) : Prop :=
  ∀ m w, G m w → madeUpon P V (fun u w' => G (m.upd i u) w') ((execOp a.eval o).run P w)

/-- The walk in the order of the text. -/
def wpMade (V : Nat → Value → Prop) (T : Act → Made → Prop) : List Oper → Nat → Act → Made → Prop
  | [], _, a, m => T a m
  | o :: rest, k, a, m => makes P G (V k) k o a ∧ ∀ v, V k v → wpMade V T rest (k + 1) (a.put o.dst v) (m.upd k v)

def mOp (ops : Array Oper) (V : Nat → Value → Prop) (i : Nat) (K : Act → Made → Prop) (a : Act) (m : Made) : Prop :=
  match ops[i]? with
  | none => False
  | some o => o.guard = none ∧ makes P G (V i) i o a ∧ ∀ v, V i v → K (a.put o.dst v) (m.upd i v)
end

section
variable {P : Program} {G : Made → World → Prop} {md : Region.Mode} {ops : Array Oper} {V : Nat → Value → Prop}

theorem mOp_mono {i : Nat} {K K' : Act → Made → Prop} {a : Act} {m : Made} (h : ∀ a m, K a m → K' a m) (hh : mOp P G ops V i K a m) : mOp P G ops V i K' a m := by
  unfold mOp at *
  split
  · simp_all
  · rename_i o ho
    rw [ho] at hh
    exact ⟨hh.1, hh.2.1, fun v hv => h _ _ (hh.2.2 v hv)⟩

theorem wpOp_of_made {i : Nat} {K : Act → Made → Prop} {K' : Act → World → Prop} {Q : Exit → Act → World → Prop} {a : Act} {m : Made} {w : World} (hG : G m w) (h : ∀ a m w, G m w → K a m → K' a w) (hh : mOp P G ops V i K a m) : wpOp P ops Q i K' a w := by
  unfold mOp at hh
  unfold wpOp
  split
  · rename_i ho; rw [ho] at hh; exact hh.elim
  · rename_i o ho
    rw [ho] at hh
    obtain ⟨hg, hm, hk⟩ := hh
    rw [if_pos (by simp [Region.wanted, hg])]
    refine .inl ?_
    have h3 := hm m w hG
    unfold Oper.wp
    generalize (execOp a.eval o).run P w = r at *
    cases r with
    | ok n w' =>
      cases n <;> simp only [madeUpon] at h3 <;> simp only [Oper.upon]
      case value u => exact h _ _ _ h3.2 (hk u h3.1)
      case skip => exact h _ _ _ h3.2 (hk _ h3.1)
      case enter f args =>
        refine h3.mono fun e w'' he => ?_
        obtain ⟨u, rfl, hv, hg'⟩ := he
        exact h _ _ _ hg' (hk u hv)
    | halt x w' => simp only [madeUpon] at h3

/-- f operations more come up, each one of the first n, and makes something of its kind, whichever is picked; then L. -/
def HeadM (P : Program) (G : Made → World → Prop) (md : Region.Mode) (ops : Array Oper) (V : Nat → Value → Prop) (n : Nat) (L : Array Bool → Act → Made → Prop) : Nat → Array Bool → Act → Made → Prop
  | 0, done, a, m => L done a m
  | f + 1, done, a, m => Region.ready md ops done ≠ [] ∧ ∀ i ∈ Region.ready md ops done, i < n ∧ mOp P G ops V i (HeadM P G md ops V n L f (done.setIfInBounds i true)) a m

theorem HeadM.any {n g : Nat} {L : Array Bool → Act → Made → Prop} {Q : Exit → Act → World → Prop} (hL : ∀ done a m w, G m w → L done a m → wpAny P md ops Q g done a w) (f : Nat) :
    ∀ done a m w, G m w → HeadM P G md ops V n L f done a m → wpAny P md ops Q (f + g) done a w := by
  induction f with
  | zero => intro done a m w hw h; rw [Nat.zero_add]; exact hL done a m w hw h
  | succ f ih =>
    intro done a m w hw h
    rw [Nat.succ_add]
    exact ⟨fun e => absurd e h.1, fun i hi => wpOp_of_made hw (fun a' m' w' hw' h' => ih _ a' m' w' hw' h') (h.2 i hi).2⟩

theorem makes_same {V : Value → Prop} {i : Nat} {o : Oper} {a a' : Act} (h : execOp a'.eval o = execOp a.eval o) (k : makes P G V i o a) : makes P G V i o a' := by
  unfold makes at *
  rw [h]
  exact k

/-- An operation of the head that may come up now may be taken first. -/
theorem HeadM.first {n i : Nat} {o : Oper} {L : Array Bool → Act → Made → Prop} (hV : ∀ k, ∃ v, V k v) (ho : ops[i]? = some o) (hg : o.guard = none) (sel : Region.noSelect ops = true)
    (sink : Region.sinkB md ops n = true) (chain : Region.chainB md ops n = true) (hn : n < ops.size) (hin : i < n) (last : ∀ done a m, L done a m → ∀ j ∈ Region.ready md ops done, n ≤ j) (f : Nat) :
    ∀ done a m, HeadInv md ops n done →
      (∀ j oj, ops[j]? = some oj → j ≠ i → done.getD j true = false → (∀ e ∈ oj.after, Region.binds md e = true → e.on ≠ i) → o.apart ops oj = true) →
      i ∈ Region.ready md ops done → makes P G (V i) i o a → (∀ v, V i v → HeadM P G md ops V n L f (done.setIfInBounds i true) (a.put o.dst v) (m.upd i v)) → HeadM P G md ops V n L (f + 1) done a m := by
  induction f with
  | zero =>
    intro done a m inv _ hr hy H
    refine ⟨List.ne_nil_of_mem hr, fun j hj => ?_⟩
    have hjn : j < n := Nat.lt_of_not_le fun h => tail_waits sink chain hn inv _ i rfl hin (mem_ready.1 hr).1 j h hj
    by_cases e : j = i
    · subst e
      refine ⟨hjn, ?_⟩
      unfold mOp
      rw [ho]
      exact ⟨hg, hy, H⟩
    · obtain ⟨v, hv⟩ := hV i
      have := last _ _ _ (H v hv) j (ready_mono hj e)
      omega
  | succ f ih =>
    intro done a m inv fr hr hy H
    refine ⟨List.ne_nil_of_mem hr, fun j hj => ?_⟩
    have hjn : j < n := Nat.lt_of_not_le fun h => tail_waits sink chain hn inv _ i rfl hin (mem_ready.1 hr).1 j h hj
    by_cases e : j = i
    · subst e
      refine ⟨hjn, ?_⟩
      unfold mOp
      rw [ho]
      exact ⟨hg, hy, H⟩
    · obtain ⟨hju, oj, hoj, hall⟩ := mem_ready.1 hj
      have off : ∀ d ∈ oj.after, Region.binds md d = true → d.on ≠ i := fun d hd hb hon => by
        have h1 := hall d hd hb
        rw [hon, getD_both (mem_ready.1 hr).1] at h1
        cases h1
      have S := Region.noSelect_spec sel
      have ap := fr j oj hoj e hju off
      obtain ⟨a1, a2, a3⟩ := Oper.apart_spec ap
      have H2 : ∀ v, V i v → mOp P G ops V j (HeadM P G md ops V n L f ((done.setIfInBounds i true).setIfInBounds j true)) (a.put o.dst v) (m.upd i v) := fun v hv => ((H v hv).2 j (ready_mono hj e)).2
      obtain ⟨v0, hv0⟩ := hV i
      have H0 := H2 v0 hv0
      refine ⟨hjn, ?_⟩
      unfold mOp at H0 H2 ⊢
      rw [hoj] at H0 H2 ⊢
      simp only at H0 H2 ⊢
      refine ⟨H0.1, makes_same (execOp_put oj (fun cs b => S j oj cs b hoj) a o.dst v0 a1).symm H0.2.1, fun u hu => ?_⟩
      refine ih _ _ _ (inv.set hj hjn) (fun k ok hk hki hu' hno => fr k ok hk hki ?_ hno) (ready_mono hr (Ne.symm e)) (makes_same (execOp_put o (fun cs b => S i o cs b ho) a oj.dst u a3) hy) fun v hv => ?_
      · by_cases ek : j = k
        · subst ek; exact hju
        · rwa [getD_set_ne true ek] at hu'
      · have := (H2 v hv).2.2 u hu
        rw [Act.put_comm a v u a2, Made.upd_comm m (Ne.symm e) v u] at this
        rw [Array.setIfInBounds_comm _ _ e]
        exact this

theorem HeadM.lex {n g : Nat} {T : Act → Made → Prop} (hV : ∀ k, ∃ v, V k v) (sel : Region.noSelect ops = true) (sink : Region.sinkB md ops n = true) (chain : Region.chainB md ops n = true) (hn : n < ops.size) (l : List Oper) :
    ∀ k done a m, (∀ j, j < l.length → l[j]? = ops[k + j]?) → (∀ o ∈ l, o.guard = none) → k + l.length = n → HeadInv md ops n done → Region.lexHead md ops g l.length k done = true → wpMade P G V T l k a m →
      HeadM P G md ops V n (fun d a' m' => Region.seqB md ops g n d = true ∧ T a' m') l.length done a m := by
  induction l with
  | nil =>
    intro k done a m _ _ hk _ hB h
    obtain rfl : k = n := by simpa using hk
    exact ⟨by simpa [Region.lexHead] using hB, h⟩
  | cons o l ih =>
    intro k done a m hl hg hk inv hB h
    have h0 : ops[k]? = some o := by simpa using (hl 0 (by simp)).symm
    have hkl : k + (l.length + 1) = n := hk
    have hkn : k < n := by omega
    simp only [List.length_cons, Region.lexHead, Bool.and_eq_true] at hB
    have hr : k ∈ Region.ready md ops done := by simpa using hB.1.1
    refine HeadM.first hV h0 (hg o (List.mem_cons_self ..)) sel sink chain hn hkn (fun d a' m' hL => seqB_ready hL.1) l.length done a m inv (Region.free_spec h0 hB.1.2) hr h.1 fun v hv =>
      ih (k + 1) _ _ _ (fun j hj => ?_) (fun x hx => hg x (List.mem_cons_of_mem _ hx)) (by omega) (inv.set hr hkn) hB.2 (h.2 v hv)
    have := hl (j + 1) (by simp; omega)
    simpa [Nat.add_assoc, Nat.add_comm 1 j] using this

theorem wpMade_step {T : Act → Made → Prop} {o : Oper} {rest : List Oper} {k : Nat} {a : Act} {m : Made} (h : makes P G (V k) k o a)
    (h2 : ∀ K : Act → Made → Prop, (∀ a m, wpMade P G V T rest (k + 1) a m → K a m) → ∀ v, V k v → K (a.put o.dst v) (m.upd k v)) : wpMade P G V T (o :: rest) k a m :=
  ⟨h, fun v hv => h2 _ (fun _ _ h => h) v hv⟩
theorem wpMade_nil {T : Act → Made → Prop} {k : Nat} {a : Act} {m : Made} (h : T a m) : wpMade P G V T [] k a m := h

/-- The region's head is walked in the order of the text, whatever is made; its tail as it stands. -/
theorem region_made_tail {id : Nat} {Q : Exit → Act → World → Prop} {a : Act} {w : World} {l : List Oper} (G : Made → World → Prop) (V : Nat → Value → Prop) (n : Nat) (hm : P.follows .mixedOrders = true) (hB : Region.lexTailB .any l.toArray n = true)
    (hgd : ((l.take n).all fun o => o.guard.isNone) = true) (hV : ∀ k, ∃ v, V k v) (hG : G (fun _ => none) w.drew)
    (h : wpMade P G V (fun a' m => ∀ w', G m w' → wpList P l.toArray Q (l.drop n) a' w') (l.take n) 0 a (fun _ => none)) : (Code.region id l.toArray true).wp P Q a w := by
  simp only [Region.lexTailB, Bool.and_eq_true, decide_eq_true_eq] at hB
  obtain ⟨⟨⟨⟨sel, hn⟩, sink⟩, chain⟩, lex⟩ := hB
  have hn' : n < l.length := by simpa using hn
  have e1 : (l.take n).length = n := by simp; omega
  have e2 : (l.drop n).length = l.toArray.size - n := by simp
  have inv : HeadInv .any l.toArray n (Array.replicate l.toArray.size false) :=
    ⟨by simp, fun j oj _ hj => (by rw [getD_replicate_false] at hj; cases hj), fun t _ ht => getD_in (by simpa using ht) (getD_replicate_false _ _)⟩
  have H := HeadM.lex (md := .any) (g := l.toArray.size - n) hV sel sink chain hn (l.take n) 0 _ a _ (fun j hj => by
    have : j < n := by omega
    simp [this]) (fun o ho => by simpa using List.all_eq_true.1 hgd o ho) (by simpa using e1) inv (by rw [e1]; exact lex) h
  refine wp_region_any hm ?_
  have R := HeadM.any (Q := Q) (g := l.toArray.size - n) (fun d a' m' w' hw' hL => by
    have := wpAny_of_seq (md := .any) (Q' := Q) (l.drop n) n d a' w' (fun j => by simp [List.getElem?_drop]) (by rw [e2]; exact hL.1) (hL.2 w' hw')
    rwa [e2] at this) _ _ _ _ { w with drawn := w.drawn + 1 } hG H
  rw [e1, show n + (l.toArray.size - n) = l.toArray.size by omega] at R
  exact R
end
end Go.Proofs.YthmhehehomieiaaGreat

/- The contract of core.New. -/
namespace Go.Proofs.YthmhehehomieiaaGreat
open Go.RowKit

theorem cut_in {n l m : Int} (h0 : l ≤ n) (h1 : n ≤ m) : cutI n l m = n := by unfold cutI; rw [if_neg (by omega), if_neg (by omega)]
theorem clamp_in {n : Int} (h0 : 0 ≤ n) (h1 : n ≤ 1048576) : clampN n = n.toNat := by unfold clampN; omega

theorem May.card {ha nu ps pz cd bf st tn lg mi ma na ja : Int} (h : May ha nu ps pz cd bf st tn lg mi ma na ja) : cd ≤ pz := by
  have h0 := h.pz0
  have h1 := h.cd1
  exact Int.le_of_dvd (by omega) (Int.dvd_of_tmod_eq_zero h1)
theorem May.words {ha nu ps pz cd bf st tn lg mi ma na ja : Int} (h : May ha nu ps pz cd bf st tn lg mi ma na ja) : 0 ≤ ps * pz ∧ ps * pz ≤ 16384 := mul_in h.ps0 (by have := h.pz0; omega) h.ps1 h.pz1

/-- How many words an arena has. -/
def Cfg.words (c : Cfg) : Int := 1 + 2 * c.nu + c.ps * c.pz
def Cfg.cards (c : Cfg) : List Bool := List.replicate (nmI (c.ps * c.pz) c.cd) false

/-- A new core. -/
def Co.fresh (c : Cfg) (pt : Pts) : Co where
  pt := pt
  cf := c
  ws := List.replicate c.words.toNat 0
  yn := false
  yu := 0
  yv := 0
  pgs := List.replicate c.ps.toNat .free
  ps := List.replicate c.ps.toNat false
  rx := []
  rm := c.cards
  ry := []
  rn := c.cards
  gl := false
  gx := []
  hs := zeros c.ha
  par := 0
  ph := 0
  mv := false
  scan := 0
  cop := 0
  look := -1
  row := []
  wi := List.replicate (1 + 2 * c.nu).toNat false
  d := ⟨0, 0, 0, 0, 0, 0, 0, 0⟩

/-- What is asked of a part that was made. -/
def NewF (c : Cfg) (w : World) (O : Nat → Prop) : Nat → Value → Prop
  | 3, v => ∃ a ab, v = arP a ∧ Has w a ab (List.replicate c.words.toNat 0) ∧ O a ∧ O ab
  | 8, v => ∃ y, v = bpP y ∧ IsBp w y c.nu 1 false 0 0 ∧ O y
  | 14, v => ∃ o pb ub, v = spP o ∧ IsSp w o pb ub (1 + 2 * c.nu) c.pz (List.replicate c.ps.toNat .free) (List.replicate c.ps.toNat false) ∧ ∀ k, SpS o pb ub (List.replicate c.ps.toNat .free) k → O k
  | 25, v => ∃ r p, v = ptr r ∧ IsSet w r p c.bf (1 + 2 * c.nu) (c.ps * c.pz) c.cd [] c.cards [] c.cards ∧ ∀ k, p.own r k → O k
  | 28, v => ∃ g, v = grP g ∧ IsGr w g c.st false none 0 0 [] ∧ O g
  | 31, v => ∃ t tg, v = htP t ∧ IsHt w t tg (zeros c.ha) ∧ O t ∧ O tg
  | 33, v => ∃ k, v = .slice (some ⟨k, 0, Option.none⟩) (1 + 2 * c.nu).toNat (1 + 2 * c.nu).toNat ∧ Blk w k ((List.replicate (1 + 2 * c.nu).toNat false).map Value.bool).toArray 4 ∧ O k
  | _, _ => True

/-- What was made so far lies apart, in new blocks. -/
def NewG (c : Cfg) (w0 : World) (m : Made) (w : World) : Prop :=
  Below w0.heap.size w0 w ∧ ∃ own : Nat → Nat → Prop, (∀ j k, own j k → w0.heap.size ≤ k ∧ k < w.heap.size) ∧ (∀ i j k, own i k → own j k → i = j) ∧ ∀ j v, m j = some v → NewF c w (own j) j v

section
variable {c : Cfg} {w0 w w' : World} {O O' : Nat → Prop} {m : Made}

theorem NewF.keep {j : Nat} {v : Value} (h : NewF c w O j v) (f : Below w.heap.size w w') : NewF c w' O j v := by
  unfold NewF at h ⊢
  split at h
  · obtain ⟨a, ab, e, k, o⟩ := h; exact ⟨a, ab, e, k.keep f, o⟩
  · obtain ⟨y, e, k, o⟩ := h; exact ⟨y, e, k.keep f, o⟩
  · obtain ⟨o, pb, ub, e, k, q⟩ := h; exact ⟨o, pb, ub, e, k.keep f, q⟩
  · obtain ⟨r, p, e, k, q⟩ := h; exact ⟨r, p, e, k.keep f, q⟩
  · obtain ⟨g, e, k, o⟩ := h; exact ⟨g, e, k.keep f, o⟩
  · obtain ⟨t, tg, e, k, o⟩ := h; exact ⟨t, tg, e, k.keep f, o⟩
  · obtain ⟨k, e, p, o⟩ := h; exact ⟨k, e, p.keep f, o⟩
  · trivial

theorem NewG.keep (h : NewG c w0 m w) (f : Below w.heap.size w w') : NewG c w0 m w' := by
  obtain ⟨b, own, h1, h2, h3⟩ := h
  exact ⟨below_trans b f, own, fun j k hk => ⟨(h1 j k hk).1, Nat.lt_of_lt_of_le (h1 j k hk).2 f.size⟩, h2, fun j v hv => (h3 j v hv).keep f⟩

theorem NewG.pure (h : NewG c w0 m w) (j : Nat) (v : Value) (hj : ∀ O, NewF c w O j v) : NewG c w0 (m.upd j v) w := by
  obtain ⟨b, own, h1, h2, h3⟩ := h
  refine ⟨b, own, h1, h2, fun i u hu => ?_⟩
  unfold Made.upd at hu
  by_cases e : i = j
  · subst e; rw [if_pos rfl] at hu; cases hu; exact hj _
  · rw [if_neg e] at hu; exact h3 i u hu

theorem NewG.made (h : NewG c w0 m w) (f : Below w.heap.size w w') (j : Nat) (v : Value) (hj : NewF c w' O j v) (ho : ∀ k, O k → w.heap.size ≤ k ∧ k < w'.heap.size) : NewG c w0 (m.upd j v) w' := by
  obtain ⟨b, own, h1, h2, h3⟩ := h.keep f
  obtain ⟨b', own', g1, g2, g3⟩ := h
  refine ⟨b, fun i k => if i = j then O k else own' i k, fun i k hk => ?_, fun i i' k hk hk' => ?_, fun i u hu => ?_⟩
  · simp only at hk
    by_cases e : i = j
    · rw [if_pos e] at hk; exact ⟨Nat.le_trans b'.size (ho k hk).1, (ho k hk).2⟩
    · rw [if_neg e] at hk; exact ⟨(g1 i k hk).1, Nat.lt_of_lt_of_le (g1 i k hk).2 f.size⟩
  · simp only at hk hk'
    by_cases e : i = j
    · rw [if_pos e] at hk
      by_cases e' : i' = j
      · omega
      · rw [if_neg e'] at hk'
        have := (g1 i' k hk').2
        have := (ho k hk).1
        omega
    · rw [if_neg e] at hk
      by_cases e' : i' = j
      · rw [if_pos e'] at hk'
        have := (g1 i k hk).2
        have := (ho k hk').1
        omega
      · rw [if_neg e'] at hk'; exact g2 i i' k hk hk'
  · unfold Made.upd at hu
    by_cases e : i = j
    · subst e
      rw [if_pos rfl] at hu
      cases hu
      simpa using hj
    · rw [if_neg e] at hu
      have := (g3 i u hu).keep f
      simpa [e] using this

theorem NewG.start (w : World) : NewG c w (fun _ => none) w := ⟨Below.refl _ _, fun _ _ => False, fun _ _ e => e.elim, fun _ _ _ e => e.elim, fun _ _ e => by cases e⟩
end

/-- Of which kind each operation makes something. -/
def NewV (c : Cfg) (x : Nat) : Nat → Value → Prop
  | 0 => fun v => v = cfV c.ha c.nu c.ps c.pz c.cd c.bf c.st c.tn c.lg c.mi c.ma c.na c.ja
  | 1 => fun v => v = cfV c.ha c.nu c.ps c.pz c.cd c.bf c.st c.tn c.lg c.mi c.ma c.na c.ja
  | 2 => fun v => v = .int .i64 c.words
  | 3 => fun v => ∃ k : Nat, v = arP k
  | 4 => fun v => v = cfV c.ha c.nu c.ps c.pz c.cd c.bf c.st c.tn c.lg c.mi c.ma c.na c.ja
  | 5 => fun v => v = .int .i64 1
  | 6 => fun v => v = .pointer (some ⟨x, 1, Option.none⟩)
  | 7 => fun v => v = .int .i64 c.nu
  | 8 => fun v => ∃ k : Nat, v = bpP k
  | 9 => fun v => v = .int .i64 (1 + 2 * c.nu)
  | 10 => fun v => v = .pointer (some ⟨x, 2, Option.none⟩)
  | 11 => fun v => v = .int .i64 c.ps
  | 12 => fun v => v = .pointer (some ⟨x, 3, Option.none⟩)
  | 13 => fun v => v = .int .i64 c.pz
  | 14 => fun v => ∃ k : Nat, v = .pointer (some ⟨k, 0, Option.none⟩)
  | 15 => fun v => v = .int .i64 (1 + 2 * c.nu)
  | 16 => fun v => v = .pointer (some ⟨x, 2, Option.none⟩)
  | 17 => fun v => v = .int .i64 c.ps
  | 18 => fun v => v = .pointer (some ⟨x, 3, Option.none⟩)
  | 19 => fun v => v = .int .i64 c.pz
  | 20 => fun v => v = .int .i64 (c.ps * c.pz)
  | 21 => fun v => v = .pointer (some ⟨x, 4, Option.none⟩)
  | 22 => fun v => v = .int .i64 c.cd
  | 23 => fun v => v = .pointer (some ⟨x, 5, Option.none⟩)
  | 24 => fun v => v = .int .i64 c.bf
  | 25 => fun v => ∃ k : Nat, v = ptr k
  | 26 => fun v => v = .pointer (some ⟨x, 6, Option.none⟩)
  | 27 => fun v => v = .int .i64 c.st
  | 28 => fun v => ∃ k : Nat, v = grP k
  | 29 => fun v => v = .pointer (some ⟨x, 0, Option.none⟩)
  | 30 => fun v => v = .int .i64 c.ha
  | 31 => fun v => ∃ k : Nat, v = htP k
  | 32 => fun v => v = .int .i64 (1 + 2 * c.nu)
  | 33 => fun v => ∃ k : Nat, v = .slice (some ⟨k, 0, Option.none⟩) (1 + 2 * c.nu).toNat (1 + 2 * c.nu).toNat
  | _ => fun _ => True

theorem newV_some (c : Cfg) (x : Nat) : ∀ k, ∃ v, NewV c x k v
  | 0 => ⟨_, rfl⟩
  | 1 => ⟨_, rfl⟩
  | 2 => ⟨_, rfl⟩
  | 3 => ⟨_, 0, rfl⟩
  | 4 => ⟨_, rfl⟩
  | 5 => ⟨_, rfl⟩
  | 6 => ⟨_, rfl⟩
  | 7 => ⟨_, rfl⟩
  | 8 => ⟨_, 0, rfl⟩
  | 9 => ⟨_, rfl⟩
  | 10 => ⟨_, rfl⟩
  | 11 => ⟨_, rfl⟩
  | 12 => ⟨_, rfl⟩
  | 13 => ⟨_, rfl⟩
  | 14 => ⟨_, 0, rfl⟩
  | 15 => ⟨_, rfl⟩
  | 16 => ⟨_, rfl⟩
  | 17 => ⟨_, rfl⟩
  | 18 => ⟨_, rfl⟩
  | 19 => ⟨_, rfl⟩
  | 20 => ⟨_, rfl⟩
  | 21 => ⟨_, rfl⟩
  | 22 => ⟨_, rfl⟩
  | 23 => ⟨_, rfl⟩
  | 24 => ⟨_, rfl⟩
  | 25 => ⟨_, 0, rfl⟩
  | 26 => ⟨_, rfl⟩
  | 27 => ⟨_, rfl⟩
  | 28 => ⟨_, 0, rfl⟩
  | 29 => ⟨_, rfl⟩
  | 30 => ⟨_, rfl⟩
  | 31 => ⟨_, 0, rfl⟩
  | 32 => ⟨_, rfl⟩
  | 33 => ⟨_, 0, rfl⟩
  | _ + 34 => ⟨undef, trivial⟩

attribute [local go_sem] madeUpon makes

/-- The parts that were made, and the block that holds them, are a new core. -/
theorem newG_end {c : Cfg} {w0 w : World} {m : Made} {k3 k8 k14 k25 k28 k31 k33 : Nat} (hc : c.May) (hg : NewG c w0 m w) (e3 : m 3 = some (arP k3)) (e8 : m 8 = some (bpP k8)) (e14 : m 14 = some (spP k14)) (e25 : m 25 = some (ptr k25)) (e28 : m 28 = some (grP k28)) (e31 : m 31 = some (htP k31)) (e33 : m 33 = some (.slice (some ⟨k33, 0, none⟩) (1 + 2 * c.nu).toNat (1 + 2 * c.nu).toNat)) :
    ∃ S, Cr (w.alloc (.cells (coL ⟨w.heap.size, k3, k8, k14, k25, k28, k31, none, 0, k33⟩ (Co.fresh c ⟨k3, k8, k14, k25, k28, k31⟩)) 42)) w.heap.size S (Co.fresh c ⟨k3, k8, k14, k25, k28, k31⟩) ∧ ∀ k, S k → w0.heap.size ≤ k := by
  obtain ⟨bel, own, h1, h2, h3⟩ := hg
  obtain ⟨a, ab, x3, pa, oa, ob⟩ := h3 3 _ e3
  obtain ⟨y, x8, py, oy⟩ := h3 8 _ e8
  obtain ⟨o, pb, ub, x14, po, oo⟩ := h3 14 _ e14
  obtain ⟨r, p, x25, pr, or_⟩ := h3 25 _ e25
  obtain ⟨g, x28, pg, og⟩ := h3 28 _ e28
  obtain ⟨t, tg, x31, pt, ot, otg⟩ := h3 31 _ e31
  obtain ⟨kw, x33, pw, ow⟩ := h3 33 _ e33
  cases x3
  cases x8
  cases x14
  cases x25
  cases x28
  cases x31
  cases x33
  have f := (Below.refl w.heap.size w).alloc (Nat.le_refl _) (.cells (coL ⟨w.heap.size, k3, k8, k14, k25, k28, k31, none, 0, k33⟩ (Co.fresh c ⟨k3, k8, k14, k25, k28, k31⟩)) 42)
  refine ⟨_, ⟨⟨w.heap.size, k3, k8, k14, k25, k28, k31, none, 0, k33⟩, fun j k => match j with
    | 0 => k = w.heap.size
    | 1 => own 3 k
    | 2 => own 8 k
    | 3 => own 14 k
    | 4 => own 25 k
    | 5 => own 28 k
    | 6 => own 31 k
    | 8 => own 33 k
    | _ => False, ⟨fun j => ?_, fun j k hk => ?_, fun i j k hi hj => ?_, hc, ?_, rfl⟩, rfl, rfl⟩, ?_⟩
  · rcases j with _ | _ | _ | _ | _ | _ | _ | _ | _ | j
    · exact ⟨Blk.new w _ _, rfl⟩
    · exact ⟨ab, pa.keep f, oa, ob⟩
    · exact ⟨py.keep f, oy⟩
    · exact ⟨pb, ub, po.keep f, oo⟩
    · exact ⟨p, pr.keep f, or_⟩
    · exact ⟨none, 0, pg.keep f, og, fun _ e => by cases e⟩
    · exact ⟨tg, pt.keep f, ot, otg⟩
    · exact ⟨Qu.nil _, fun _ e => by cases e⟩
    · exact ⟨pw.keep f, List.length_replicate .., ow⟩
    · exact trivial
  · have hs : (w.alloc (.cells (coL ⟨w.heap.size, k3, k8, k14, k25, k28, k31, none, 0, k33⟩ (Co.fresh c ⟨k3, k8, k14, k25, k28, k31⟩)) 42)).heap.size = w.heap.size + 1 := by simp
    rw [hs]
    rcases j with _ | _ | _ | _ | _ | _ | _ | _ | _ | j
    · simp only at hk; omega
    all_goals first | (have := (h1 _ _ hk).2; omega) | exact hk.elim
  · rcases i with _ | _ | _ | _ | _ | _ | _ | _ | _ | i <;> rcases j with _ | _ | _ | _ | _ | _ | _ | _ | _ | j <;> simp only at hi hj <;> first | rfl | exact hi.elim | exact hj.elim | (have := h2 _ _ k hi hj; omega) | (subst hi; have := (h1 _ _ hj).2; omega) | (subst hj; have := (h1 _ _ hi).2; omega)
  · have e := hc.words
    have := hc.nu1
    show (List.replicate c.words.toNat (0 : Int)).length ≤ 1048576
    rw [List.length_replicate]
    unfold Cfg.words
    omega
  · rintro k ⟨j, hk⟩
    rcases j with _ | _ | _ | _ | _ | _ | _ | _ | _ | j
    · simp only at hk; have := bel.size; omega
    all_goals first | exact (h1 _ _ hk).1 | exact hk.elim

set_option maxHeartbeats 1000000 in
theorem coNew_no (c : Cfg) (w : World) (h : mayB c.ha c.nu c.ps c.pz c.cd c.bf c.st c.tn c.lg c.mi c.ma c.na c.ja = false) :
    Calls Tryz.prog 19 #[c.v] w fun e w' => e = .returned (.tuple #[.pointer none, .int .i64 1]) ∧ Below w.heap.size w w' := by
  have H := fun w => check_any c.ha c.nu c.ps c.pz c.cd c.bf c.st c.tn c.lg c.mi c.ma c.na c.ja w
  rw [h] at H
  have H := Lib.hid H
  clear h
  go_enter Tryz.func19, Tryz.ntmps19
  go_wp2_with fail
  refine (H.out _).mono ?_
  rintro e w1 ⟨rfl, b1⟩
  have B1 := Lib.hid (below_alloc_trans _ b1)
  clear b1 H
  go_wp2
  go_ret2
  exact ⟨rfl, B1.out⟩

set_option maxHeartbeats 20000000 in
set_option maxRecDepth 100000 in
theorem coNew_yes (c : Cfg) (w : World) (h : c.May) :
    Calls Tryz.prog 19 #[c.v] w fun e w' => ∃ b S pt, e = .returned (.tuple #[ptr b, .int .i64 0]) ∧ Cr w' b S (Co.fresh c pt) ∧ Below w.heap.size w w' ∧ ∀ k, S k → w.heap.size ≤ k := by
  have H := fun w => check_any c.ha c.nu c.ps c.pz c.cd c.bf c.st c.tn c.lg c.mi c.ma c.na c.ja w
  rw [(mayB_iff ..).2 h] at H
  have H := Lib.hid H
  have HM := Lib.hid (fun w => mature_any c.ha c.nu c.ps c.pz c.cd c.bf c.st c.tn c.lg c.mi c.ma c.na c.ja w h.nu0 h.nu1)
  have HH := Lib.hid (fun w => half_any c.ha c.nu c.ps c.pz c.cd c.bf c.st c.tn c.lg c.mi c.ma c.na c.ja 0 w h.nu0 h.nu1)
  have HW := Lib.hid (fun w => words_any c.ha c.nu c.ps c.pz c.cd c.bf c.st c.tn c.lg c.mi c.ma c.na c.ja w h)
  have HY := Lib.hid h
  have m0 := h.words
  have hw : IntKind.i64.wrap (c.ps * c.pz) = c.ps * c.pz := wrap_in _ (by omega) (by omega)
  have M0 := Lib.hid m0
  clear h m0
  go_enter Tryz.func19, Tryz.ntmps19
  go_wp2_with fail
  refine (H.out _).mono ?_
  rintro e w1 ⟨rfl, b1⟩
  have kk := (Blk.new w _ _).keep b1
  have bb := below_alloc_trans _ b1
  clear b1 H
  obtain ⟨q0, q1, q2, q3, q4, q5, q6, q7, q8, q9, q10, q11, q12⟩ := kk.thirteen
  go_wp2_with fail
  refine (HM.out _).mono ?_
  rintro e w2 ⟨rfl, b2⟩
  clear q0 q1 q2 q3 q4 q5 q6 q7 q8 q9 q10 q11 q12
  have KK := Lib.hid (kk.keep b2)
  have BB := Lib.hid (below_trans bb b2)
  clear kk bb b2 HM
  go_wp2
  refine region_made_tail (NewG c w2.drew) (NewV c w.heap.size) 34 (by kernel_rfl) (by kernel_rfl) (by kernel_rfl) (newV_some c _) (NewG.start _) ?_
  simp only [List.take_succ_cons, List.take_zero, List.drop_succ_cons, List.drop_zero]

  refine wpMade_step ?_ ?_
  · intro m w' hg
    obtain ⟨q0, q1, q2, q3, q4, q5, q6, q7, q8, q9, q10, q11, q12⟩ := (KK.out.drew.keep hg.1).thirteen
    go_simp
    exact ⟨rfl, hg.pure _ _ fun _ => trivial⟩
  intro K hK
  rintro _ rfl
  go_simp
  refine hK _ _ ?_
  clear hK K
  refine wpMade_step ?_ ?_
  · intro m w' hg
    obtain ⟨q0, q1, q2, q3, q4, q5, q6, q7, q8, q9, q10, q11, q12⟩ := (KK.out.drew.keep hg.1).thirteen
    go_simp
    exact ⟨rfl, hg.pure _ _ fun _ => trivial⟩
  intro K hK
  rintro _ rfl
  go_simp
  refine hK _ _ ?_
  clear hK K
  refine wpMade_step ?_ ?_
  · intro m w' hg
    go_simp
    exact (HW.out w').mono fun e w3 ⟨he, b3⟩ => ⟨_, he, rfl, (hg.keep b3).pure _ _ fun _ => trivial⟩
  intro K hK
  rintro _ rfl
  go_simp
  refine hK _ _ ?_
  clear hK K
  refine wpMade_step ?_ ?_
  · intro m w' hg
    go_simp
    refine (new_any _ w').mono fun e w3 ⟨he, hi, b3⟩ => ⟨_, he, ⟨_, rfl⟩, hg.made (O := fun k => w'.heap.size ≤ k ∧ k < w3.heap.size) b3 _ _ ⟨_, _, rfl, ⟨0, ?_⟩, ⟨by omega, hi.ltA⟩, ⟨by omega, hi.ltB⟩⟩ fun k hk => hk⟩
    have e := clamp_in (n := c.words) (by have := M0.out; have := HY.out.nu0; unfold Cfg.words; omega) (by have := M0.out; have := HY.out.nu1; unfold Cfg.words; omega)
    rw [e] at hi
    exact hi
  intro K hK
  rintro _ ⟨k3, rfl⟩
  go_simp
  refine hK _ _ ?_
  clear hK K
  refine wpMade_step ?_ ?_
  · intro m w' hg
    obtain ⟨q0, q1, q2, q3, q4, q5, q6, q7, q8, q9, q10, q11, q12⟩ := (KK.out.drew.keep hg.1).thirteen
    go_simp
    exact ⟨rfl, hg.pure _ _ fun _ => trivial⟩
  intro K hK
  rintro _ rfl
  go_simp
  refine hK _ _ ?_
  clear hK K
  refine wpMade_step ?_ ?_
  · intro m w' hg
    go_simp
    exact (HH.out w').mono fun e w3 ⟨he, b3⟩ => ⟨_, he, rfl, (hg.keep b3).pure _ _ fun _ => trivial⟩
  intro K hK
  rintro _ rfl
  go_simp
  refine hK _ _ ?_
  clear hK K
  refine wpMade_step ?_ ?_
  · intro m w' hg
    go_simp
    exact ⟨rfl, hg.pure _ _ fun _ => trivial⟩
  intro K hK
  rintro _ rfl
  go_simp
  refine hK _ _ ?_
  clear hK K
  refine wpMade_step ?_ ?_
  · intro m w' hg
    obtain ⟨q0, q1, q2, q3, q4, q5, q6, q7, q8, q9, q10, q11, q12⟩ := (KK.out.drew.keep hg.1).thirteen
    go_simp
    exact ⟨rfl, hg.pure _ _ fun _ => trivial⟩
  intro K hK
  rintro _ rfl
  go_simp
  refine hK _ _ ?_
  clear hK K
  refine wpMade_step ?_ ?_
  · intro m w' hg
    go_simp
    refine (bNew_any _ _ w').mono fun e w3 ⟨he, hi, b3⟩ => ⟨_, he, ⟨_, rfl⟩, hg.made (O := fun k => w'.heap.size ≤ k ∧ k < w3.heap.size) b3 _ _ ⟨_, rfl, ?_, ⟨by omega, hi.lt⟩⟩ fun k hk => hk⟩
    rw [cut_in (by have := HY.out.nu0; omega) (by have := HY.out.nu1; omega), cut_in (n := 1) (by omega) (by omega)] at hi
    exact hi
  intro K hK
  rintro _ ⟨k8, rfl⟩
  go_simp
  refine hK _ _ ?_
  clear hK K
  refine wpMade_step ?_ ?_
  · intro m w' hg
    go_simp
    exact ⟨rfl, hg.pure _ _ fun _ => trivial⟩
  intro K hK
  rintro _ rfl
  go_simp
  refine hK _ _ ?_
  clear hK K
  refine wpMade_step ?_ ?_
  · intro m w' hg
    go_simp
    exact ⟨rfl, hg.pure _ _ fun _ => trivial⟩
  intro K hK
  rintro _ rfl
  go_simp
  refine hK _ _ ?_
  clear hK K
  refine wpMade_step ?_ ?_
  · intro m w' hg
    obtain ⟨q0, q1, q2, q3, q4, q5, q6, q7, q8, q9, q10, q11, q12⟩ := (KK.out.drew.keep hg.1).thirteen
    go_simp
    exact ⟨rfl, hg.pure _ _ fun _ => trivial⟩
  intro K hK
  rintro _ rfl
  go_simp
  refine hK _ _ ?_
  clear hK K
  refine wpMade_step ?_ ?_
  · intro m w' hg
    go_simp
    exact ⟨rfl, hg.pure _ _ fun _ => trivial⟩
  intro K hK
  rintro _ rfl
  go_simp
  refine hK _ _ ?_
  clear hK K
  refine wpMade_step ?_ ?_
  · intro m w' hg
    obtain ⟨q0, q1, q2, q3, q4, q5, q6, q7, q8, q9, q10, q11, q12⟩ := (KK.out.drew.keep hg.1).thirteen
    go_simp
    exact ⟨rfl, hg.pure _ _ fun _ => trivial⟩
  intro K hK
  rintro _ rfl
  go_simp
  refine hK _ _ ?_
  clear hK K
  refine wpMade_step ?_ ?_
  · intro m w' hg
    go_simp
    refine (mNew_any _ _ _ w').mono fun e w3 ⟨he, hi, b3⟩ => ⟨_, he, ⟨_, rfl⟩, hg.made (O := fun k => w'.heap.size ≤ k ∧ k < w3.heap.size) b3 _ _ ⟨_, w'.heap.size, fun _ => 0, rfl, ?_, ?_⟩ fun k hk => hk⟩
    · rw [cut_in (n := 1 + 2 * c.nu) (by have := HY.out.nu0; omega) (by have := HY.out.nu1; omega), cut_in (n := c.pz) (by have := HY.out.pz0; omega) (by have := HY.out.pz1; omega), cut_in (n := c.ps) (by have := HY.out.ps0; omega) (by have := HY.out.ps1; omega)] at hi
      exact hi
    · rw [cut_in (n := c.ps) (by have := HY.out.ps0; omega) (by have := HY.out.ps1; omega)] at hi
      intro k hk
      refine ⟨?_, hi.lt k hk⟩
      rcases hk with rfl | rfl | ⟨i, x, hx, hf, rfl⟩
      · omega
      · omega
      · rw [List.getElem?_replicate] at hx
        split at hx
        · cases hx; cases hf
        · cases hx
  intro K hK
  rintro _ ⟨k14, rfl⟩
  go_simp
  refine hK _ _ ?_
  clear hK K
  refine wpMade_step ?_ ?_
  · intro m w' hg
    go_simp
    exact ⟨rfl, hg.pure _ _ fun _ => trivial⟩
  intro K hK
  rintro _ rfl
  go_simp
  refine hK _ _ ?_
  clear hK K
  refine wpMade_step ?_ ?_
  · intro m w' hg
    go_simp
    exact ⟨rfl, hg.pure _ _ fun _ => trivial⟩
  intro K hK
  rintro _ rfl
  go_simp
  refine hK _ _ ?_
  clear hK K
  refine wpMade_step ?_ ?_
  · intro m w' hg
    obtain ⟨q0, q1, q2, q3, q4, q5, q6, q7, q8, q9, q10, q11, q12⟩ := (KK.out.drew.keep hg.1).thirteen
    go_simp
    exact ⟨rfl, hg.pure _ _ fun _ => trivial⟩
  intro K hK
  rintro _ rfl
  go_simp
  refine hK _ _ ?_
  clear hK K
  refine wpMade_step ?_ ?_
  · intro m w' hg
    go_simp
    exact ⟨rfl, hg.pure _ _ fun _ => trivial⟩
  intro K hK
  rintro _ rfl
  go_simp
  refine hK _ _ ?_
  clear hK K
  refine wpMade_step ?_ ?_
  · intro m w' hg
    obtain ⟨q0, q1, q2, q3, q4, q5, q6, q7, q8, q9, q10, q11, q12⟩ := (KK.out.drew.keep hg.1).thirteen
    go_simp
    exact ⟨rfl, hg.pure _ _ fun _ => trivial⟩
  intro K hK
  rintro _ rfl
  go_simp
  refine hK _ _ ?_
  clear hK K
  refine wpMade_step ?_ ?_
  · intro m w' hg
    go_simp
    exact ⟨rfl, hg.pure _ _ fun _ => trivial⟩
  intro K hK
  rintro _ rfl
  go_simp
  refine hK _ _ ?_
  clear hK K
  refine wpMade_step ?_ ?_
  · intro m w' hg
    go_simp
    exact ⟨rfl, hg.pure _ _ fun _ => trivial⟩
  intro K hK
  rintro _ rfl
  go_simp
  refine hK _ _ ?_
  clear hK K
  refine wpMade_step ?_ ?_
  · intro m w' hg
    obtain ⟨q0, q1, q2, q3, q4, q5, q6, q7, q8, q9, q10, q11, q12⟩ := (KK.out.drew.keep hg.1).thirteen
    go_simp
    exact ⟨rfl, hg.pure _ _ fun _ => trivial⟩
  intro K hK
  rintro _ rfl
  go_simp
  refine hK _ _ ?_
  clear hK K
  refine wpMade_step ?_ ?_
  · intro m w' hg
    go_simp
    exact ⟨rfl, hg.pure _ _ fun _ => trivial⟩
  intro K hK
  rintro _ rfl
  go_simp
  refine hK _ _ ?_
  clear hK K
  refine wpMade_step ?_ ?_
  · intro m w' hg
    obtain ⟨q0, q1, q2, q3, q4, q5, q6, q7, q8, q9, q10, q11, q12⟩ := (KK.out.drew.keep hg.1).thirteen
    go_simp
    exact ⟨rfl, hg.pure _ _ fun _ => trivial⟩
  intro K hK
  rintro _ rfl
  go_simp
  refine hK _ _ ?_
  clear hK K
  refine wpMade_step ?_ ?_
  · intro m w' hg
    go_simp
    refine (set_new w' _ _ _ _).mono fun e w3 ⟨s, p, he, hi, b3, ho⟩ => ⟨_, he, ⟨_, rfl⟩, hg.made (O := fun k => w'.heap.size ≤ k ∧ k < w3.heap.size) b3 _ _ ⟨_, p, rfl, ?_, fun k hk => ⟨ho k hk, hi.lt hk⟩⟩ fun k hk => hk⟩
    rw [cut_in (n := c.bf) (by have := HY.out.bf0; omega) (by have := HY.out.bf1; omega), cut_in (n := 1 + 2 * c.nu) (by have := HY.out.nu0; omega) (by have := HY.out.nu1; omega), cut_in (n := c.ps * c.pz) (by have := M0.out; omega) (by have := M0.out; omega),
      cut_in (n := c.cd) (by have := HY.out.cd0; omega) (by have := HY.out.card; have := HY.out.pz1; omega)] at hi
    exact hi
  intro K hK
  rintro _ ⟨k25, rfl⟩
  go_simp
  refine hK _ _ ?_
  clear hK K
  refine wpMade_step ?_ ?_
  · intro m w' hg
    go_simp
    exact ⟨rfl, hg.pure _ _ fun _ => trivial⟩
  intro K hK
  rintro _ rfl
  go_simp
  refine hK _ _ ?_
  clear hK K
  refine wpMade_step ?_ ?_
  · intro m w' hg
    obtain ⟨q0, q1, q2, q3, q4, q5, q6, q7, q8, q9, q10, q11, q12⟩ := (KK.out.drew.keep hg.1).thirteen
    go_simp
    exact ⟨rfl, hg.pure _ _ fun _ => trivial⟩
  intro K hK
  rintro _ rfl
  go_simp
  refine hK _ _ ?_
  clear hK K
  refine wpMade_step ?_ ?_
  · intro m w' hg
    go_simp
    refine (grNew_any _ w').mono fun e w3 ⟨he, hi, b3⟩ => ⟨_, he, ⟨_, rfl⟩, hg.made (O := fun k => w'.heap.size ≤ k ∧ k < w3.heap.size) b3 _ _ ⟨_, rfl, ?_, ⟨by omega, hi.lt⟩⟩ fun k hk => hk⟩
    rw [cut_in (n := c.st) (by have := HY.out.st0; omega) (by have := HY.out.st1; omega)] at hi
    exact hi
  intro K hK
  rintro _ ⟨k28, rfl⟩
  go_simp
  refine hK _ _ ?_
  clear hK K
  refine wpMade_step ?_ ?_
  · intro m w' hg
    go_simp
    exact ⟨rfl, hg.pure _ _ fun _ => trivial⟩
  intro K hK
  rintro _ rfl
  go_simp
  refine hK _ _ ?_
  clear hK K
  refine wpMade_step ?_ ?_
  · intro m w' hg
    obtain ⟨q0, q1, q2, q3, q4, q5, q6, q7, q8, q9, q10, q11, q12⟩ := (KK.out.drew.keep hg.1).thirteen
    go_simp
    exact ⟨rfl, hg.pure _ _ fun _ => trivial⟩
  intro K hK
  rintro _ rfl
  go_simp
  refine hK _ _ ?_
  clear hK K
  refine wpMade_step ?_ ?_
  · intro m w' hg
    go_simp
    refine (tbNew_any _ w').mono fun e w3 ⟨he, hi, b3⟩ => ⟨_, he, ⟨_, rfl⟩, hg.made (O := fun k => w'.heap.size ≤ k ∧ k < w3.heap.size) b3 _ _ ⟨_, _, rfl, ?_, ⟨by omega, hi.blk.lt⟩, ⟨by omega, hi.row.lt⟩⟩ fun k hk => hk⟩
    rw [cut_in (n := c.ha) (by have := HY.out.ha0; omega) (by have := HY.out.ha1; omega)] at hi
    exact hi
  intro K hK
  rintro _ ⟨k31, rfl⟩
  go_simp
  refine hK _ _ ?_
  clear hK K
  refine wpMade_step ?_ ?_
  · intro m w' hg
    go_simp
    exact ⟨rfl, hg.pure _ _ fun _ => trivial⟩
  intro K hK
  rintro _ rfl
  go_simp
  refine hK _ _ ?_
  clear hK K
  refine wpMade_step ?_ ?_
  · intro m w' hg
    go_simp
    have n0 := HY.out.nu0
    have n1 := HY.out.nu1
    rw [run_make_bool (1 + 2 * c.nu) (by omega) (by omega) w']
    have bk := Blk.new w' ((List.replicate (1 + 2 * c.nu).toNat false).map Value.bool).toArray 4
    exact ⟨⟨_, rfl⟩, hg.made (O := fun k => k = w'.heap.size) ((Below.refl _ w').alloc (Nat.le_refl _) _) 33 _ ⟨_, rfl, bk, rfl⟩ fun k hk => by subst hk; exact ⟨Nat.le_refl _, bk.lt⟩⟩
  intro K hK
  rintro _ ⟨k33, rfl⟩
  go_simp
  refine hK _ _ ?_
  clear hK K
  refine wpMade_nil ?_
  intro w' hg
  have HE := Lib.hid (newG_end HY.out hg rfl rfl rfl rfl rfl rfl rfl)
  have BE := Lib.hid (below_trans BB.out (below_trans (below_drew w2) hg.1))
  have SZ := BB.out.size
  clear HH HW hg KK BB
  go_wp2
  go_ret2
  obtain ⟨S, hS, hk⟩ := HE.out
  refine ⟨_, S, _, rfl, hS, BE.out.alloc BE.out.size _, fun k hk' => Nat.le_trans SZ (hk k hk')⟩
end Go.Proofs.YthmhehehomieiaaGreat

/- The contracts of Stats. -/
namespace Go.Proofs.YthmhehehomieiaaGreat
open Go.RowKit

abbrev stV8 (a c d e f y o r : Int) : Value := .agg #[.int .i64 a, .int .i64 c, .int .i64 d, .int .i64 e, .int .i64 f, .int .i64 y, .int .i64 o, .int .i64 r]
abbrev stL8 (a c d e f y o r : Int) : Array Value := #[.int .i64 a, .int .i64 c, .int .i64 d, .int .i64 e, .int .i64 f, .int .i64 y, .int .i64 o, .int .i64 r]
abbrev stO8 (a c d e f y o r : Int) : Obj := .cells (stL8 a c d e f y o r) 31

set_option maxHeartbeats 1000000 in
theorem stats_none (w : World) : Calls Tryz.prog 20 #[.pointer Option.none] w fun e w' => e = .returned (stV8 0 0 0 0 0 0 0 0) ∧ Below w.heap.size w w' := by
  go_enter Tryz.func20, Tryz.ntmps20
  go_wp2
  exact bodyPost_ret (v := stV8 0 0 0 0 0 0 0 0) (by simp [results, Tryz.results20, go_sem]) rfl ⟨rfl, (Below.refl _ _).alloc (Nat.le_refl _) _⟩

theorem Blk.eight {w : World} {b : Nat} {t : TypeId} {v0 v1 v2 v3 v4 v5 v6 v7 : Value} (h : Blk w b #[v0, v1, v2, v3, v4, v5, v6, v7] t) :
    w.cell? ⟨b, 0, none⟩ = some v0 ∧ w.cell? ⟨b, 1, none⟩ = some v1 ∧ w.cell? ⟨b, 2, none⟩ = some v2 ∧ w.cell? ⟨b, 3, none⟩ = some v3 ∧ w.cell? ⟨b, 4, none⟩ = some v4 ∧ w.cell? ⟨b, 5, none⟩ = some v5 ∧ w.cell? ⟨b, 6, none⟩ = some v6 ∧ w.cell? ⟨b, 7, none⟩ = some v7 ∧
    (∀ i, w.frozen? ⟨b, i, none⟩ = false) := ⟨h.cell 0, h.cell 1, h.cell 2, h.cell 3, h.cell 4, h.cell 5, h.cell 6, h.cell 7, h.frozen⟩

theorem Blk.set8 {w1 : World} {k : Nat} {t : TypeId} {u0 u1 u2 u3 u4 u5 u6 u7 : Value} (h : Blk w1 k #[u0, u1, u2, u3, u4, u5, u6, u7] t) (v0 v1 v2 v3 v4 v5 v6 v7 : Value) :
    Blk ((((((((w1.setCell ⟨k, 0, none⟩ v0).setCell ⟨k, 1, none⟩ v1).setCell ⟨k, 2, none⟩ v2).setCell ⟨k, 3, none⟩ v3).setCell ⟨k, 4, none⟩ v4).setCell ⟨k, 5, none⟩ v5).setCell ⟨k, 6, none⟩ v6).setCell ⟨k, 7, none⟩ v7) k #[v0, v1, v2, v3, v4, v5, v6, v7] t := by
  have e := (((((((h.set_ 0 v0).set_ 1 v1).set_ 2 v2).set_ 3 v3).set_ 4 v4).set_ 5 v5).set_ 6 v6).set_ 7 v7
  simpa only [List.setIfInBounds_toArray, List.set_cons_zero, List.set_cons_succ] using e

theorem Frm.set8 {T : Nat → Prop} {w w' : World} (f : Frm T w w') (r : Nat) (hr : T r) (v0 v1 v2 v3 v4 v5 v6 v7 : Value) :
    Frm T w ((((((((w'.setCell ⟨r, 0, none⟩ v0).setCell ⟨r, 1, none⟩ v1).setCell ⟨r, 2, none⟩ v2).setCell ⟨r, 3, none⟩ v3).setCell ⟨r, 4, none⟩ v4).setCell ⟨r, 5, none⟩ v5).setCell ⟨r, 6, none⟩ v6).setCell ⟨r, 7, none⟩ v7) :=
  (f.set7 r hr v0 v1 v2 v3 v4 v5 v6).setCell (p := ⟨r, 7, none⟩) (fun _ => hr) _

section
variable {w : World} {b : Nat} {S : Nat → Prop} {s : Co}

/-- How many words of the pages are used. -/
def Co.used (s : Co) : Int := usedI (cellsP (1 + 2 * s.cf.nu) s.cf.pz s.pgs)

theorem Cr.oldUsed (hC : Cr w b S s) : ∃ o : Nat, w.cell? ⟨b, 15, Option.none⟩ = some (.pointer (some ⟨o, 0, Option.none⟩)) ∧ Calls Tryz.prog 69 #[.pointer (some ⟨o, 0, Option.none⟩)] w fun e w' => e = .returned (.int .i64 s.used) ∧ Below w.heap.size w w' := by
  obtain ⟨P, own, h0, rfl, rfl⟩ := hC
  obtain ⟨pb, ub, hp, _⟩ := h0.prt 3
  exact ⟨P.o, h0.cell 15, mUsed_any _ _ _ _ _ _ _ w hp⟩

def StV (y b k : Nat) (u v : Int) : Nat → Value → Prop
  | 0 => fun x => x = ptr b
  | 1 => fun x => x = ptr b
  | 2 => fun x => x = .pointer (some ⟨b, 14, Option.none⟩)
  | 3 => fun x => x = bpP y
  | 4 => fun x => x = .int .i64 u
  | 5 => fun x => x = ptr b
  | 6 => fun x => x = ptr b
  | 7 => fun x => x = .pointer (some ⟨b, 14, Option.none⟩)
  | 8 => fun x => x = bpP y
  | 9 => fun x => x = .int .i64 v
  | 10 => fun x => x = .int .i64 (u + v)
  | 11 => fun x => x = .pointer (some ⟨k, 5, Option.none⟩)
  | _ => fun _ => True
theorem stV_some (y b k : Nat) (u v : Int) : ∀ i, ∃ x, StV y b k u v i x
  | 0 => ⟨_, rfl⟩
  | 1 => ⟨_, rfl⟩
  | 2 => ⟨_, rfl⟩
  | 3 => ⟨_, rfl⟩
  | 4 => ⟨_, rfl⟩
  | 5 => ⟨_, rfl⟩
  | 6 => ⟨_, rfl⟩
  | 7 => ⟨_, rfl⟩
  | 8 => ⟨_, rfl⟩
  | 9 => ⟨_, rfl⟩
  | 10 => ⟨_, rfl⟩
  | 11 => ⟨_, rfl⟩
  | _ + 12 => ⟨undef, trivial⟩

attribute [local go_sem] madeUpon makes

set_option maxHeartbeats 8000000 in
set_option maxRecDepth 100000 in
theorem stats_any (hC : Cr w b S s) (u0 : 0 ≤ s.used) (u1 : s.used ≤ 16384) :
    Calls Tryz.prog 20 #[ptr b] w fun e w' => e = .returned (stV8 s.d.al s.d.wd s.d.pr s.d.mi s.d.ma (s.yu + s.yv) s.used (s.cf.ps * s.cf.pz - s.used)) ∧ Below w.heap.size w w' := by
  have m0 := hC.may.words
  have n1 := hC.may.nu1
  obtain ⟨y, _, hy⟩ := hC.half
  have hw1 : IntKind.i64.wrap (s.yu + s.yv) = s.yu + s.yv := wrap_in _ (by have := hy.u0; have := hy.v0; omega) (by have := hy.u1; have := hy.v1; have := hy.w1; omega)
  have hw2 : IntKind.i64.wrap (s.cf.ps * s.cf.pz) = s.cf.ps * s.cf.pz := wrap_in _ (by omega) (by omega)
  have hw3 : IntKind.i64.wrap (s.cf.ps * s.cf.pz - s.used) = s.cf.ps * s.cf.pz - s.used := wrap_in _ (by omega) (by omega)
  have W1 := Lib.hid hw1
  have W2 := Lib.hid hw2
  have W3 := Lib.hid hw3
  have HC := Lib.hid hC
  have HC0 := Lib.hid hC
  have k := hC.box (stO8 0 0 0 0 0 0 0 0)
  obtain ⟨P, own, h0, _, hc, _⟩ := k.cell
  have c26 := hc 26
  have c27 := hc 27
  have c28 := hc 28
  have c29 := hc 29
  have c30 := hc 30
  have c31 := hc 31
  have c32 := hc 32
  have c33 := hc 33
  simp only [coL, List.getElem?_toArray, List.getElem?_cons_succ, List.getElem?_cons_zero] at c26 c27 c28 c29 c30 c31 c32 c33
  have SL := Lib.hid (fun k hk => hC.lt (k := k) hk)
  clear hC k h0 hc hy m0 n1 u0 u1 hw1 hw2 hw3
  go_enter Tryz.func20, Tryz.ntmps20
  go_wp2_with fail
  clear c26 c27 c28 c29 c30 c31 c32 c33
  have key : Hid (Cr ((w.alloc (stO8 0 0 0 0 0 0 0 0)).alloc (stO8 s.d.al s.d.wd s.d.pr s.d.mi s.d.ma s.d.yo s.d.ol s.d.fr)) b S s ∧ Blk ((w.alloc (stO8 0 0 0 0 0 0 0 0)).alloc (stO8 s.d.al s.d.wd s.d.pr s.d.mi s.d.ma s.d.yo s.d.ol s.d.fr)) w.heap.size (stL8 0 0 0 0 0 0 0 0) 31 ∧
      Blk ((w.alloc (stO8 0 0 0 0 0 0 0 0)).alloc (stO8 s.d.al s.d.wd s.d.pr s.d.mi s.d.ma s.d.yo s.d.ol s.d.fr)) (w.heap.size + 1) (stL8 s.d.al s.d.wd s.d.pr s.d.mi s.d.ma s.d.yo s.d.ol s.d.fr) 31 ∧
      Below w.heap.size w ((w.alloc (stO8 0 0 0 0 0 0 0 0)).alloc (stO8 s.d.al s.d.wd s.d.pr s.d.mi s.d.ma s.d.yo s.d.ol s.d.fr)) ∧ w.heap.size + 1 < ((w.alloc (stO8 0 0 0 0 0 0 0 0)).alloc (stO8 s.d.al s.d.wd s.d.pr s.d.mi s.d.ma s.d.yo s.d.ol s.d.fr)).heap.size) :=
    Lib.hid ⟨(HC.out.box _).box _, (Blk.new w _ _).alloc _, by simpa using Blk.new (w.alloc (stO8 0 0 0 0 0 0 0 0)) (stL8 s.d.al s.d.wd s.d.pr s.d.mi s.d.ma s.d.yo s.d.ol s.d.fr) 31, ((Below.refl _ w).alloc (Nat.le_refl _) _).alloc (by simp) _, by simp⟩
  generalize (w.alloc (stO8 0 0 0 0 0 0 0 0)).alloc (stO8 s.d.al s.d.wd s.d.pr s.d.mi s.d.ma s.d.yo s.d.ol s.d.fr) = w2 at key ⊢
  have HC := Lib.hid key.out.1
  have X2 := Lib.hid key.out.2.1
  have X3 := Lib.hid key.out.2.2.1
  have B2 := Lib.hid key.out.2.2.2
  clear key
  obtain ⟨y, c14, hy⟩ := HC.out.half
  have HU := Lib.hid (fun (w' : World) (f : Below w2.heap.size w2 w') => (And.intro ((f.cell (p := ⟨b, 14, Option.none⟩) (by obtain ⟨_, _, _, _, _, _, l⟩ := HC.out.cell; exact l)).trans c14) (And.intro (bUsed_any y _ _ _ _ _ w' (hy.keep f)) (bLeft_any y _ _ _ _ _ w' (hy.keep f)))))
  have hw1 := W1.out
  clear hy c14
  refine region_made_tail (fun _ w' => Below w2.heap.size w2 w') (StV y b (w.heap.size + 1) s.yu s.yv) 12 (by kernel_rfl) (by kernel_rfl) (by kernel_rfl) (stV_some _ _ _ _ _) (below_drew w2) ?_
  simp only [List.take_succ_cons, List.take_zero, List.drop_succ_cons, List.drop_zero]
  refine wpMade_step ?_ ?_
  · intro m w' hg
    go_simp
    first | exact ⟨rfl, hg⟩ | exact rfl
  intro K hK
  rintro _ rfl
  go_simp
  refine hK _ _ ?_
  clear hK K
  refine wpMade_step ?_ ?_
  · intro m w' hg
    go_simp
    first | exact ⟨rfl, hg⟩ | exact rfl
  intro K hK
  rintro _ rfl
  go_simp
  refine hK _ _ ?_
  clear hK K
  refine wpMade_step ?_ ?_
  · intro m w' hg
    go_simp
    first | exact ⟨rfl, hg⟩ | exact rfl
  intro K hK
  rintro _ rfl
  go_simp
  refine hK _ _ ?_
  clear hK K
  refine wpMade_step ?_ ?_
  · intro m w' hg
    have q := (HU.out w' hg).1
    go_simp
    first | exact ⟨rfl, hg⟩ | exact rfl
  intro K hK
  rintro _ rfl
  go_simp
  refine hK _ _ ?_
  clear hK K
  refine wpMade_step ?_ ?_
  · intro m w' hg
    go_simp
    exact (HU.out w' hg).2.1.mono fun e w3 ⟨he, b3⟩ => ⟨_, he, rfl, below_trans hg b3⟩
  intro K hK
  rintro _ rfl
  go_simp
  refine hK _ _ ?_
  clear hK K
  refine wpMade_step ?_ ?_
  · intro m w' hg
    go_simp
    first | exact ⟨rfl, hg⟩ | exact rfl
  intro K hK
  rintro _ rfl
  go_simp
  refine hK _ _ ?_
  clear hK K
  refine wpMade_step ?_ ?_
  · intro m w' hg
    go_simp
    first | exact ⟨rfl, hg⟩ | exact rfl
  intro K hK
  rintro _ rfl
  go_simp
  refine hK _ _ ?_
  clear hK K
  refine wpMade_step ?_ ?_
  · intro m w' hg
    go_simp
    first | exact ⟨rfl, hg⟩ | exact rfl
  intro K hK
  rintro _ rfl
  go_simp
  refine hK _ _ ?_
  clear hK K
  refine wpMade_step ?_ ?_
  · intro m w' hg
    have q := (HU.out w' hg).1
    go_simp
    first | exact ⟨rfl, hg⟩ | exact rfl
  intro K hK
  rintro _ rfl
  go_simp
  refine hK _ _ ?_
  clear hK K
  refine wpMade_step ?_ ?_
  · intro m w' hg
    go_simp
    exact (HU.out w' hg).2.2.mono fun e w3 ⟨he, b3⟩ => ⟨_, he, rfl, below_trans hg b3⟩
  intro K hK
  rintro _ rfl
  go_simp
  refine hK _ _ ?_
  clear hK K
  refine wpMade_step ?_ ?_
  · intro m w' hg
    go_simp
    first | exact ⟨rfl, hg⟩ | exact rfl
  intro K hK
  rintro _ rfl
  go_simp
  refine hK _ _ ?_
  clear hK K
  refine wpMade_step ?_ ?_
  · intro m w' hg
    go_simp
    first | exact ⟨rfl, hg⟩ | exact rfl
  intro K hK
  rintro _ rfl
  go_simp
  refine hK _ _ ?_
  clear hK K
  refine wpMade_nil ?_
  intro w3 hg
  clear hw1
  obtain ⟨d0, d1, d2, d3, d4, d5, d6, d7, df⟩ := (X3.out.keep hg).eight
  have K3 := Lib.hid (HC.out.keep hg)
  have Y2 := Lib.hid (X2.out.keep hg)
  have Y3 := Lib.hid (X3.out.keep hg)
  have B3 := Lib.hid (below_trans B2.out.1 hg)
  have f4 : Frm (fun k => k = w.heap.size + 1) w3 (w3.setCell ⟨w.heap.size + 1, 5, Option.none⟩ (.int .i64 (s.yu + s.yv))) := Frm.setCell (S := fun k => k = w.heap.size + 1) (Frm.refl _ _) (p := ⟨w.heap.size + 1, 5, Option.none⟩) (fun _ => rfl) _
  have K4 := K3.out.frm f4 (fun k hk e => by have := SL.out k hk; omega)
  have Z2 := Lib.hid (Y2.out.frm f4 (by omega))
  have Z3 := Lib.hid (Y3.out.set_ 5 (.int .i64 (s.yu + s.yv)))
  have B4 := Lib.hid (Below.frm B3.out f4 B3.out.size (fun k hk e => by omega))
  obtain ⟨o, c15, hu⟩ := K4.oldUsed
  have e15 : w3.cell? ⟨b, 15, Option.none⟩ = some (.pointer (some ⟨o, 0, Option.none⟩)) := by
    have q := c15
    rwa [World.cell?_setCell_other _ _ _ _ (by simp)] at q
  have HU2 := Lib.hid hu
  have KK := Lib.hid K4
  clear hg HU HC X2 X3 B2 K4 hu c15 f4 K3 Y2 Y3 B3
  go_wp2_with fail
  refine HU2.out.mono ?_
  rintro e w5 ⟨rfl, b5⟩
  have Z3' := Z3.out.keep b5
  simp only [List.setIfInBounds_toArray, List.set_cons_zero, List.set_cons_succ] at Z3'
  have T2 := Lib.hid (Z2.out.keep b5)
  have T3 := Lib.hid Z3'
  have B5 := Lib.hid (below_trans B4.out b5)
  have K5 := KK.out.keep b5
  obtain ⟨P5, own5, h5, _, hc5, _, lb⟩ := K5.cell
  have c2 : w5.cell? ⟨b, 2, Option.none⟩ = some (.int .i64 s.cf.ps) := hc5 2
  have c3 : w5.cell? ⟨b, 3, Option.none⟩ = some (.int .i64 s.cf.pz) := hc5 3
  obtain ⟨d0, d1, d2, d3, d4, d5, d6, d7, df⟩ := Z3'.eight
  have l3 := Z3'.lt
  have l2 := T2.out.lt
  clear h5 hc5 K5 Z3' b5 Z2 Z3 B4 KK HU2 e15
  have hw2 := W2.out
  have hw3 := W3.out
  go_wp2
  go_region
  all_goals
    clear d0 d1 d2 d3 d4 d5 d6 d7 df c2 c3 hw2 hw3
    refine then_world (fun W => Blk W (w.heap.size + 1) (stL8 s.d.al s.d.wd s.d.pr s.d.mi s.d.ma (s.yu + s.yv) s.used (s.cf.ps * s.cf.pz - s.used)) 31 ∧ Frm (fun k => k = w.heap.size + 1) w5 W) ⟨?_, ?_⟩ ?_
    · have q := (T3.out.set_ 6 (.int .i64 s.used)).set_ 7 (.int .i64 (s.cf.ps * s.cf.pz - s.used))
      simp only [List.setIfInBounds_toArray, List.set_cons_zero, List.set_cons_succ] at q
      exact q.drew
    · exact (Frm.setCell (S := fun k => k = w.heap.size + 1) (Frm.setCell (S := fun k => k = w.heap.size + 1) (Frm.refl _ _) (p := ⟨w.heap.size + 1, 6, Option.none⟩) (fun _ => rfl) _) (p := ⟨w.heap.size + 1, 7, Option.none⟩) (fun _ => rfl) _).drew
    rintro W ⟨x3, fr⟩
    have x2 := T2.out.frm fr (by omega)
    have BW := Lib.hid (Below.frm B5.out fr B5.out.size (fun k hk e => by omega))
    obtain ⟨d0, d1, d2, d3, d4, d5, d6, d7, df⟩ := x3.eight
    obtain ⟨e0, e1, e2, e3, e4, e5, e6, e7, ef⟩ := x2.eight
    clear x2 x3 fr T2 T3 B5
    go_wp2
    exact bodyPost_ret (v := stV8 s.d.al s.d.wd s.d.pr s.d.mi s.d.ma (s.yu + s.yv) s.used (s.cf.ps * s.cf.pz - s.used)) (by simp [results, Tryz.results20, go_sem, e0, e1, e2, e3, e4, e5, e6, e7]) rfl
      ⟨rfl, Below.frm BW.out (Frm.set8 (T := fun k => k = w.heap.size) (Frm.refl _ _) _ rfl _ _ _ _ _ _ _ _) BW.out.size (fun k hk e => by omega)⟩
end
end Go.Proofs.YthmhehehomieiaaGreat

/- The document's graph (nodes by their numbers, none of which ever goes) as it lies in memory; what it comes to, as a function of lists. -/
namespace Go.Proofs.YthmhehehomieiaaGreat
open Go.RowKit

/-- A graph: its nodes, from 1 on (what each refers to, and its scalars), what handles hold, and how many fields there may be. -/
structure Gr where
  ns : List (List Int × List Int)
  hs : List Int
  lg : Int

def Gr.has (G : Gr) (h : Int) : Bool := decide (0 ≤ h) && decide (h < G.hs.length)
def Gr.held (G : Gr) (h : Int) : Int := G.hs.getD h.toNat 0
def Gr.wrong (G : Gr) (h : Int) : Int := if G.has h = true then (if G.held h = 0 then 4 else 0) else 3
def Gr.node (G : Gr) (i : Int) : List Int × List Int := G.ns.getD (i.toNat - 1) ([], [])
def Gr.setNode (G : Gr) (i : Int) (x : List Int × List Int) : Gr := { G with ns := G.ns.set (i.toNat - 1) x }
def Gr.hold (G : Gr) (h x : Int) : Gr := { G with hs := G.hs.set h.toNat x }

/-- An entry that changes something: its error, and what it comes to. -/
def Gr.change (G : Gr) (k a b c v : Int) : Int × Gr :=
  if k = 1 then
    if G.has a = true then
      if b < 0 ∨ c < 0 ∨ G.lg < b ∨ G.lg - b < c then (6, G)
      else (0, { G with ns := G.ns ++ [(List.replicate b.toNat 0, List.replicate c.toNat 0)], hs := G.hs.set a.toNat (G.ns.length + 1) })
    else (3, G)
  else if k = 2 then
    if G.wrong b = 0 then
      if G.has a = true then
        if 0 ≤ c ∧ c < (G.node (G.held b)).1.length then (0, G.hold a ((G.node (G.held b)).1.getD c.toNat 0)) else (5, G)
      else (3, G)
    else (G.wrong b, G)
  else if k = 3 then
    if G.wrong a = 0 then
      if G.has c = true then
        if 0 ≤ b ∧ b < (G.node (G.held a)).1.length then (0, G.setNode (G.held a) ((G.node (G.held a)).1.set b.toNat (G.held c), (G.node (G.held a)).2)) else (5, G)
      else (3, G)
    else (G.wrong a, G)
  else if k = 5 then
    if G.wrong a = 0 then
      if 0 ≤ b ∧ b < (G.node (G.held a)).2.length then (0, G.setNode (G.held a) ((G.node (G.held a)).1, (G.node (G.held a)).2.set b.toNat v)) else (5, G)
    else (G.wrong a, G)
  else if k = 6 then
    if G.has a = true then (0, G.hold a 0) else (3, G)
  else if k = 7 then
    if G.has a = true ∧ G.has b = true then (0, G.hold a (G.held b)) else (3, G)
  else (0, G)

/-- A node in memory: what it refers to lies in block pb, its scalars in block sb. -/
structure Nd where
  ps : List Int
  ss : List Int
  pb : Nat
  sb : Nat

def Nd.vs (x : Nd) : List Value := [.slice (some ⟨x.pb, 0, none⟩) x.ps.length x.ps.length, .slice (some ⟨x.sb, 0, none⟩) x.ss.length x.ss.length]
def Nd.two (x : Nd) : List Int × List Int := (x.ps, x.ss)

/-- The nodes' cells, that of number 0 ahead. -/
def ndV (nd : List Nd) : List Value := [.slice none 0 0, .slice none 0 0] ++ nd.flatMap Nd.vs

def wordsU (ys : List Int) : List Value := ys.map (Value.int .u64)

theorem flatNd_length (nd : List Nd) : (nd.flatMap Nd.vs).length = nd.length * 2 := by
  induction nd with
  | nil => rfl
  | cons x nd ih => rw [List.flatMap_cons, List.length_append, ih, List.length_cons]; simp [Nd.vs]; omega

theorem flatNd_at (nd : List Nd) (i j : Nat) (x : Nd) (h : nd[i]? = some x) (hj : j < 2) : (nd.flatMap Nd.vs)[i * 2 + j]? = x.vs[j]? := by
  induction nd generalizing i with
  | nil => simp at h
  | cons y nd ih =>
    rw [List.flatMap_cons]
    cases i with
    | zero =>
      simp at h
      subst h
      rw [Nat.zero_mul, Nat.zero_add]
      exact List.getElem?_append_left (by simpa [Nd.vs] using hj)
    | succ i =>
      simp at h
      rw [List.getElem?_append_right (by simp [Nd.vs]; omega), ← ih i h]
      congr 1
      simp [Nd.vs]; omega

theorem ndV_length (nd : List Nd) : (ndV nd).length = (nd.length + 1) * 2 := by
  rw [ndV, List.length_append, flatNd_length]; simp; omega

theorem ndV_at (nd : List Nd) (i j : Nat) (x : Nd) (h : nd[i]? = some x) (hj : j < 2) : (ndV nd)[(i + 1) * 2 + j]? = x.vs[j]? := by
  rw [ndV, List.getElem?_append_right (by simp; omega), ← flatNd_at nd i j x h hj]
  congr 1
  simp; omega

theorem ndV_snoc (nd : List Nd) (x : Nd) : ndV (nd ++ [x]) = ndV nd ++ x.vs := by simp [ndV, List.flatMap_append]

/-- The cells of nodes hang on blocks and lengths alone. -/
theorem ndV_set (nd : List Nd) (i : Nat) (x y : Nd) (h : nd[i]? = some x) (e : y.vs = x.vs) : ndV (nd.set i y) = ndV nd := by
  unfold ndV
  congr 1
  induction nd generalizing i with
  | nil => rfl
  | cons z nd ih =>
    cases i with
    | zero => simp at h; subst h; simp [e]
    | succ i => simp at h; simp [ih i h]

/-- Block g is the document's graph: nodes in the slice vN, handles in the slice (hA, .., hc). -/
structure IsG (w : World) (g : Nat) (vN : Value) (hA : Option Addr) (hc : Nat) (nd : List Nd) (hs : List Int) (lg : Int) : Prop where
  blk : Blk w g #[vN, .slice hA hs.length hc, .int .i64 lg] 117
  hrow : Qu w hA hs.length hc hs
  nrow : w.ownsRow 0 120 2 vN (nd.length + 1) (ndV nd)
  ptr : ∀ x ∈ nd, Blk w x.pb (ints x.ps).toArray 3
  sca : ∀ x ∈ nd, Blk w x.sb (wordsU x.ss).toArray 51
  hap : ∀ x ∈ nd, blkOf hA ≠ some x.pb
  nap : nd.Pairwise fun x y => x.pb ≠ y.pb ∧ x.sb ≠ y.sb
  hin : ∀ h ∈ hs, 0 ≤ h ∧ h ≤ nd.length
  pin : ∀ x ∈ nd, ∀ q ∈ x.ps, 0 ≤ q ∧ q ≤ nd.length
  few : nd.length ≤ 1048576
  hfew : hs.length ≤ 64
  lg0 : 0 ≤ lg
  lg1 : lg ≤ 64
  size : ∀ x ∈ nd, x.ps.length ≤ 64 ∧ x.ss.length ≤ 64

/-- Its blocks. -/
def gOwn (g : Nat) (vN : Value) (hA : Option Addr) (nd : List Nd) (k : Nat) : Prop := k = g ∨ vN.ownBlock = some k ∨ blkOf hA = some k ∨ ∃ x ∈ nd, k = x.pb ∨ k = x.sb

/-- Block g is the graph G of the document's, in blocks of S. -/
def Rg (w : World) (g : Nat) (S : Nat → Prop) (G : Gr) : Prop :=
  ∃ vN hA hc nd, IsG w g vN hA hc nd G.hs G.lg ∧ G.ns = nd.map Nd.two ∧ S = gOwn g vN hA nd

section
variable {w w' : World} {g : Nat} {vN : Value} {hA : Option Addr} {hc : Nat} {nd : List Nd} {hs : List Int} {lg : Int}

/-- The slice of nodes. -/
theorem IsG.row (h : IsG w g vN hA hc nd hs lg) : ∃ nb nc cur, vN = .slice (some ⟨nb, 0, none⟩) (nd.length + 1) nc ∧ Blk w nb cur 120 ∧ nd.length + 1 ≤ nc ∧ nc ≤ maxLen ∧
    ∀ i j x, nd[i]? = some x → j < 2 → cur[(i + 1) * 2 + j]? = x.vs[j]? := by
  obtain ⟨hl, hv⟩ := h.nrow
  rcases hv with ⟨_, e⟩ | ⟨nb, nc, cur, e, _, hb, hn, hm, hs, ht⟩
  · omega
  · refine ⟨nb, nc, cur, e, hb, hn, hm, fun i j x hx hj => ?_⟩
    have hi : i < nd.length := (List.getElem?_eq_some_iff.1 hx).1
    rw [← ndV_at nd i j x hx hj, ← ht, List.getElem?_take_of_lt (by omega), Array.getElem?_toList]

theorem IsG.own_lt (h : IsG w g vN hA hc nd hs lg) {k : Nat} (hk : gOwn g vN hA nd k) : k < w.heap.size := by
  rcases hk with rfl | e | e | ⟨x, hx, rfl | rfl⟩
  · exact h.blk.lt
  · obtain ⟨nb, nc, cur, rfl, hb, _⟩ := h.row
    cases e
    exact hb.lt
  · exact h.hrow.lt e
  · exact (h.ptr x hx).lt
  · exact (h.sca x hx).lt

theorem ownsRow_frm {S : Nat → Prop} {e : TypeId} {k n : Nat} {v : Value} {xs : List Value} (h : w.ownsRow 0 e k v n xs) (f : Frm S w w') (hs : ∀ j, v.ownBlock = some j → ¬ S j) : w'.ownsRow 0 e k v n xs := by
  obtain ⟨hl, hv⟩ := h
  refine ⟨hl, hv.imp id ?_⟩
  rintro ⟨g, cap, cur, rfl, hb, hg, r⟩
  exact ⟨g, cap, cur, rfl, hb, (show Blk w' g cur e from Blk.frm (S := S) hg f (hs g rfl)), r⟩

theorem IsG.frm {S : Nat → Prop} (h : IsG w g vN hA hc nd hs lg) (f : Frm S w w') (dis : ∀ k, gOwn g vN hA nd k → ¬ S k) : IsG w' g vN hA hc nd hs lg :=
  { h with
    blk := h.blk.frm f (dis _ (.inl rfl))
    hrow := h.hrow.frm f fun k e => dis k (.inr (.inr (.inl e)))
    nrow := ownsRow_frm h.nrow f fun k e => dis k (.inr (.inl e))
    ptr := fun x hx => (h.ptr x hx).frm f (dis _ (.inr (.inr (.inr ⟨x, hx, .inl rfl⟩))))
    sca := fun x hx => (h.sca x hx).frm f (dis _ (.inr (.inr (.inr ⟨x, hx, .inr rfl⟩)))) }

theorem IsG.keep (h : IsG w g vN hA hc nd hs lg) (f : Below w.heap.size w w') : IsG w' g vN hA hc nd hs lg := h.frm (S := fun _ => False) (Frm.of_below f) fun _ _ e => e
end

theorem Rg.keep {w w' : World} {g : Nat} {S : Nat → Prop} {G : Gr} (h : Rg w g S G) (f : Below w.heap.size w w') : Rg w' g S G := by
  obtain ⟨vN, hA, hc, nd, hi, e, es⟩ := h
  exact ⟨vN, hA, hc, nd, hi.keep f, e, es⟩
theorem Rg.frm {w w' : World} {g : Nat} {S T : Nat → Prop} {G : Gr} (h : Rg w g S G) (f : Frm T w w') (dis : ∀ k, S k → ¬ T k) : Rg w' g S G := by
  obtain ⟨vN, hA, hc, nd, hi, e, rfl⟩ := h
  exact ⟨vN, hA, hc, nd, hi.frm f dis, e, rfl⟩
theorem Rg.lt {w : World} {g : Nat} {S : Nat → Prop} {G : Gr} (h : Rg w g S G) {k : Nat} (hk : S k) : k < w.heap.size := by
  obtain ⟨vN, hA, hc, nd, hi, e, rfl⟩ := h
  exact hi.own_lt hk
end Go.Proofs.YthmhehehomieiaaGreat

/- Objects that stand one behind the other, as words of an arena, and as nodes of a graph: lists alone. -/
namespace Go.Proofs.YthmhehehomieiaaGreat
open Go.RowKit

abbrev Node2 := List Int × List Int
def sz (n : Node2) : Nat := n.1.length + n.2.length + 2
def tot (ns : List Node2) : Nat := (ns.map sz).sum
/-- Where node number i + 1 stands. -/
def pos (ns : List Node2) (i : Nat) : Nat := 1 + tot (ns.take i)
/-- What a reference is: 0, or a node's place. -/
def plc (ns : List Node2) (q : Int) : Int := if q ≤ 0 then 0 else pos ns (q.toNat - 1)

theorem tot_nil : tot [] = 0 := rfl
theorem tot_append (a b : List Node2) : tot (a ++ b) = tot a + tot b := by simp [tot]
theorem tot_one (n : Node2) : tot [n] = sz n := by simp [tot]
theorem tot_snoc (a : List Node2) (n : Node2) : tot (a ++ [n]) = tot a + sz n := by rw [tot_append, tot_one]

section
variable {ns ms : List Node2} {i j : Nat} {n m : Node2}

theorem pos_step (h : ns[i]? = some n) : pos ns (i + 1) = pos ns i + sz n := by
  unfold pos
  rw [List.take_add_one, h, Option.toList_some, tot_snoc]
  omega
theorem pos_all : pos ns ns.length = 1 + tot ns := by unfold pos; rw [List.take_length]
theorem pos_mono (h : i ≤ j) : pos ns i ≤ pos ns j := by
  unfold pos
  have : ns.take j = ns.take i ++ (ns.take j).drop i := by
    have := List.take_append_drop i (ns.take j)
    rw [List.take_take, Nat.min_eq_left h] at this
    exact this.symm
  rw [this, tot_append]
  omega
theorem pos_apart (h : ns[i]? = some n) (hij : i < j) : pos ns i + sz n ≤ pos ns j := by rw [← pos_step h]; exact pos_mono hij
theorem pos_end (h : ns[i]? = some n) : pos ns i + sz n ≤ 1 + tot ns := by
  rw [← pos_all]; exact pos_apart h (List.getElem?_eq_some_iff.1 h).1
theorem pos_one : 1 ≤ pos ns i := by unfold pos; omega
theorem sz_two : 2 ≤ sz n := by unfold sz; omega
/-- Places hang on sizes alone. -/
theorem pos_same (h : ns.map sz = ms.map sz) : pos ns i = pos ms i := by
  unfold pos tot
  rw [List.map_take, List.map_take, h]
theorem tot_same (h : ns.map sz = ms.map sz) : tot ns = tot ms := by unfold tot; rw [h]
theorem plc_same (h : ns.map sz = ms.map sz) (q : Int) : plc ns q = plc ms q := by unfold plc; rw [pos_same h]
theorem set_sz (h : ns[i]? = some n) (e : sz m = sz n) : (ns.set i m).map sz = ns.map sz := by
  apply List.ext_getElem?
  intro j
  rw [List.getElem?_map, List.getElem?_map]
  by_cases hj : i = j
  · subst hj
    rw [List.getElem?_set_self (List.getElem?_eq_some_iff.1 h).1, h, Option.map_some, Option.map_some, e]
  · rw [List.getElem?_set_ne hj]
theorem pos_snoc (h : i ≤ ns.length) : pos (ns ++ [n]) i = pos ns i := by
  unfold pos; rw [List.take_append_of_le_length h]
theorem plc_snoc {q : Int} (h : q ≤ ns.length) : plc (ns ++ [n]) q = plc ns q := by
  unfold plc
  split
  · rfl
  · rw [pos_snoc (by omega)]
theorem plc_nil {q : Int} (h0 : 0 ≤ q) : plc ns q = 0 ↔ q = 0 := by
  unfold plc
  have := @pos_one ns (q.toNat - 1)
  split <;> omega
theorem plc_zero : plc ns 0 = 0 := rfl
theorem plc_succ (i : Nat) : plc ns ((i : Int) + 1) = pos ns i := by
  unfold plc
  rw [if_neg (by omega), show ((i : Int) + 1).toNat - 1 = i by omega]
theorem plc_of {q : Int} (h : 0 < q) : plc ns q = pos ns (q.toNat - 1) := by unfold plc; rw [if_neg (by omega)]
theorem plc_in {q : Int} (h1 : q ≤ ns.length) : 0 ≤ plc ns q ∧ plc ns q ≤ 1 + tot ns := by
  unfold plc
  split
  · omega
  · have : pos ns (q.toNat - 1) ≤ pos ns ns.length := pos_mono (by omega)
    rw [pos_all] at this
    omega
theorem plc_inj {q r : Int} (h0 : 0 ≤ q) (h1 : q ≤ ns.length) (k0 : 0 ≤ r) (k1 : r ≤ ns.length) (e : plc ns q = plc ns r) : q = r := by
  rcases Int.lt_or_le 0 q with hq | hq
  · rcases Int.lt_or_le 0 r with hr | hr
    · rw [plc_of hq, plc_of hr] at e
      have lt : ∀ a b : Nat, a < b → b < ns.length → pos ns a ≠ pos ns b := fun a b hab hb e => by
        obtain ⟨x, hx⟩ : ∃ x, ns[a]? = some x := ⟨_, List.getElem?_eq_getElem (by omega)⟩
        have := pos_apart hx hab
        have := @sz_two x
        omega
      rcases Nat.lt_trichotomy (q.toNat - 1) (r.toNat - 1) with h | h | h
      · exact absurd (by omega) (lt _ _ h (by omega))
      · omega
      · exact absurd (by omega) (lt _ _ h (by omega))
    · obtain rfl : r = 0 := by omega
      exact (plc_nil h0).1 (e.trans plc_zero)
  · obtain rfl : q = 0 := by omega
    exact ((plc_nil k0).1 (e.symm.trans plc_zero)).symm
end

/-- A node's words: its head, what it refers to, its scalars. -/
structure NodeW (ws : List Int) (P : Int → Int) (at_ : Nat) (n : Node2) : Prop where
  head : ws[at_]? = some (wordI (n.1.length + n.2.length : Nat) n.1.length 0 0 false false false)
  refs : ∀ (k : Nat) (q : Int), n.1[k]? = some q → ws[at_ + (2 + k)]? = some (P q)
  scas : ∀ (k : Nat) (x : Int), n.2[k]? = some x → ws[at_ + (2 + (n.1.length + k))]? = some x

/-- The nodes' words, one behind the other. -/
structure Lay (ws : List Int) (ns : List Node2) : Prop where
  node : ∀ (i : Nat) (n : Node2), ns[i]? = some n → NodeW ws (plc ns) (pos ns i) n
  refs : ∀ (i : Nat) (n : Node2), ns[i]? = some n → ∀ q ∈ n.1, 0 ≤ q ∧ q ≤ ns.length
  room : 1 + tot ns ≤ ws.length

section
variable {ws vs : List Int} {ns : List Node2} {i k : Nat} {n m : Node2} {P P' : Int → Int} {a : Nat}

/-- Words elsewhere have turned. -/
theorem NodeW.far (h : NodeW ws P a n) (hw : ∀ j, a ≤ j → j < a + sz n → vs[j]? = ws[j]?) (hP : ∀ q ∈ n.1, P' q = P q) : NodeW vs P' a n where
  head := by rw [hw _ (Nat.le_refl _) (by have := @sz_two n; omega)]; exact h.head
  refs := fun k q hq => by
    have hk := (List.getElem?_eq_some_iff.1 hq).1
    rw [hw _ (by omega) (by unfold sz; omega), hP q (List.mem_of_getElem? hq)]
    exact h.refs k q hq
  scas := fun k x hx => by
    have hk := (List.getElem?_eq_some_iff.1 hx).1
    rw [hw _ (by omega) (by unfold sz; omega)]
    exact h.scas k x hx

theorem Lay.set_ref (h : Lay ws ns) (hn : ns[i]? = some n) (hk : k < n.1.length) {q : Int} (q0 : 0 ≤ q) (q1 : q ≤ ns.length) :
    Lay (ws.set (pos ns i + (2 + k)) (plc ns q)) (ns.set i (n.1.set k q, n.2)) := by
  have es : (ns.set i (n.1.set k q, n.2)).map sz = ns.map sz := set_sz hn (by simp [sz])
  have hi := (List.getElem?_eq_some_iff.1 hn).1
  have hp : ∀ r, plc (ns.set i (n.1.set k q, n.2)) r = plc ns r := plc_same es
  have hend := pos_end hn
  have hr := h.room
  have hin : pos ns i + (2 + k) < ws.length := by unfold sz at hend; omega
  refine ⟨fun j m hm => ?_, fun j m hm r hr => ?_, by rw [List.length_set, tot_same es]; exact hr⟩
  · rw [pos_same es]
    by_cases e : j = i
    · subst e
      rw [List.getElem?_set_self hi] at hm
      cases hm
      have old := h.node _ _ hn
      refine ⟨?_, fun k' r hr' => ?_, fun k' x hx => ?_⟩
      · rw [List.getElem?_set_ne (by omega)]
        simpa using old.head
      · rw [hp]
        by_cases ek : k' = k
        · subst ek
          rw [List.getElem?_set_self hk] at hr'
          cases hr'
          rw [List.getElem?_set_self hin]
        · rw [List.getElem?_set_ne (by omega)] at hr' ⊢
          exact old.refs k' r hr'
      · have hk' := (List.getElem?_eq_some_iff.1 hx).1
        simp only [List.length_set] at hx ⊢
        rw [List.getElem?_set_ne (by omega)]
        exact old.scas k' x hx
    · rw [List.getElem?_set_ne (by omega)] at hm
      refine (h.node j m hm).far (fun x h1 h2 => List.getElem?_set_ne ?_) fun r _ => hp r
      rcases Nat.lt_or_gt_of_ne e with hl | hl
      · have := pos_apart hm hl
        omega
      · have := pos_apart hn hl
        unfold sz at this
        omega
  · rw [List.length_set]
    by_cases e : j = i
    · subst e
      rw [List.getElem?_set_self hi] at hm
      cases hm
      rcases List.mem_or_eq_of_mem_set hr with hr | rfl
      · exact h.refs _ _ hn r hr
      · exact ⟨q0, q1⟩
    · rw [List.getElem?_set_ne (by omega)] at hm
      exact h.refs _ _ hm r hr

theorem Lay.set_sca (h : Lay ws ns) (hn : ns[i]? = some n) (hk : k < n.2.length) (x : Int) :
    Lay (ws.set (pos ns i + (2 + (n.1.length + k))) x) (ns.set i (n.1, n.2.set k x)) := by
  have es : (ns.set i (n.1, n.2.set k x)).map sz = ns.map sz := set_sz hn (by simp [sz])
  have hi := (List.getElem?_eq_some_iff.1 hn).1
  have hp : ∀ r, plc (ns.set i (n.1, n.2.set k x)) r = plc ns r := plc_same es
  have hend := pos_end hn
  have hr := h.room
  have hin : pos ns i + (2 + (n.1.length + k)) < ws.length := by unfold sz at hend; omega
  refine ⟨fun j m hm => ?_, fun j m hm r hr => ?_, by rw [List.length_set, tot_same es]; exact hr⟩
  · rw [pos_same es]
    by_cases e : j = i
    · subst e
      rw [List.getElem?_set_self hi] at hm
      cases hm
      have old := h.node _ _ hn
      refine ⟨?_, fun k' r hr' => ?_, fun k' y hy => ?_⟩
      · rw [List.getElem?_set_ne (by omega)]
        simpa using old.head
      · have hk' := (List.getElem?_eq_some_iff.1 hr').1
        simp only at hk'
        rw [hp, List.getElem?_set_ne (by omega)]
        exact old.refs k' r hr'
      · simp only at hy ⊢
        by_cases ek : k' = k
        · subst ek
          rw [List.getElem?_set_self hk] at hy
          cases hy
          rw [List.getElem?_set_self hin]
        · rw [List.getElem?_set_ne (by omega)] at hy ⊢
          exact old.scas k' y hy
    · rw [List.getElem?_set_ne (by omega)] at hm
      refine (h.node j m hm).far (fun y h1 h2 => List.getElem?_set_ne ?_) fun r _ => hp r
      rcases Nat.lt_or_gt_of_ne e with hl | hl
      · have := pos_apart hm hl
        omega
      · have := pos_apart hn hl
        unfold sz at this
        omega
  · rw [List.length_set]
    by_cases e : j = i
    · subst e
      rw [List.getElem?_set_self hi] at hm
      cases hm
      exact h.refs _ _ hn r hr
    · rw [List.getElem?_set_ne (by omega)] at hm
      exact h.refs _ _ hm r hr

theorem splice_at {L cs : List Int} {off j : Nat} (h : off + cs.length ≤ L.length) : (splice L off cs)[j]? = if off ≤ j ∧ j < off + cs.length then cs[j - off]? else L[j]? := by
  unfold splice
  by_cases h1 : j < off
  · rw [if_neg (by omega), List.getElem?_append_left (by rw [List.length_take]; omega), List.getElem?_take_of_lt h1]
  · rw [List.getElem?_append_right (by rw [List.length_take]; omega), List.length_take, Nat.min_eq_left (by omega)]
    by_cases h2 : j < off + cs.length
    · rw [if_pos (by omega), List.getElem?_append_left (by omega)]
    · rw [if_neg (by omega), List.getElem?_append_right (by omega), List.getElem?_drop]
      congr 1
      omega

/-- The words of something that was made. -/
theorem madeW_at {at_ s x : Int} (ha : 0 ≤ at_) (hs : 0 ≤ s) (hi : at_ + (s + 2) ≤ ws.length) :
    (madeW ws at_ s x)[at_.toNat]? = some x ∧ (∀ j, 2 ≤ j → j < (s + 2).toNat → (madeW ws at_ s x)[at_.toNat + j]? = some 0) ∧
    (∀ j, (j < at_.toNat ∨ at_.toNat + (s + 2).toNat ≤ j) → (madeW ws at_ s x)[j]? = ws[j]?) ∧ (madeW ws at_ s x).length = ws.length := by
  have hl : at_.toNat + (List.replicate (s + 2).toNat (0 : Int)).length ≤ ws.length := by rw [List.length_replicate]; omega
  have len : (splice ws at_.toNat (List.replicate (s + 2).toNat (0 : Int))).length = ws.length := splice_len ws hs ⟨ha, hi⟩
  unfold madeW
  refine ⟨?_, fun j h1 h2 => ?_, fun j hj => ?_, by rw [List.length_set, List.length_set, len]⟩
  · rw [List.getElem?_set_ne (by omega), List.getElem?_set_self (by omega)]
  · rw [List.getElem?_set_ne (by omega), List.getElem?_set_ne (by omega), splice_at hl, if_pos (by rw [List.length_replicate]; omega), List.getElem?_replicate, if_pos (by omega)]
  · rw [List.getElem?_set_ne (by omega), List.getElem?_set_ne (by omega), splice_at hl, if_neg (by rw [List.length_replicate]; omega)]

/-- One more node. -/
theorem Lay.add (h : Lay ws ns) (p c : Nat) (hr : 1 + tot ns + (p + c + 2) ≤ ws.length) :
    Lay (madeW ws (1 + tot ns : Nat) (p + c : Nat) (wordI (p + c : Nat) p 0 0 false false false)) (ns ++ [(List.replicate p 0, List.replicate c 0)]) := by
  obtain ⟨m1, m2, m3, m4⟩ := madeW_at (ws := ws) (at_ := (1 + tot ns : Nat)) (s := (p + c : Nat)) (x := wordI (p + c : Nat) p 0 0 false false false) (by omega) (by omega) (by omega)
  generalize madeW ws (1 + tot ns : Nat) (p + c : Nat) (wordI (p + c : Nat) p 0 0 false false false) = vs at *
  simp only [Int.toNat_natCast] at m1 m2 m3
  have e2 : ((p + c : Nat) + 2 : Int).toNat = p + c + 2 := by omega
  rw [e2] at m2 m3
  have hz : sz (List.replicate p (0 : Int), List.replicate c (0 : Int)) = p + c + 2 := by simp [sz]
  refine ⟨fun j m hm => ?_, fun j m hm r hr' => ?_, by rw [m4, tot_snoc, hz]; omega⟩
  · rcases Nat.lt_or_ge j ns.length with hj | hj
    · rw [List.getElem?_append_left hj] at hm
      rw [pos_snoc (by omega)]
      have := pos_end hm
      exact (h.node j m hm).far (fun x h1 h2 => m3 x (.inl (by omega))) fun q hq => plc_snoc (h.refs j m hm q hq).2
    · have e : j = ns.length := by
        have := (List.getElem?_eq_some_iff.1 hm).1
        simp at this
        omega
      subst e
      rw [List.getElem?_append_right (Nat.le_refl _), Nat.sub_self] at hm
      cases hm
      rw [pos_snoc (Nat.le_refl _), pos_all]
      refine ⟨by simpa using m1, fun k q hq => ?_, fun k x hx => ?_⟩
      · have hk := (List.getElem?_eq_some_iff.1 hq).1
        rw [List.length_replicate] at hk
        rw [List.getElem?_replicate, if_pos hk] at hq
        cases hq
        rw [m2 _ (by omega) (by omega)]
        rfl
      · have hk := (List.getElem?_eq_some_iff.1 hx).1
        rw [List.length_replicate] at hk
        rw [List.getElem?_replicate, if_pos hk] at hx
        cases hx
        simp only [List.length_replicate]
        rw [m2 _ (by omega) (by omega)]
  · rw [List.length_append, List.length_singleton]
    rcases Nat.lt_or_ge j ns.length with hj | hj
    · rw [List.getElem?_append_left hj] at hm
      have := h.refs j m hm r hr'
      omega
    · have e : j = ns.length := by
        have := (List.getElem?_eq_some_iff.1 hm).1
        simp at this
        omega
      subst e
      rw [List.getElem?_append_right (Nat.le_refl _), Nat.sub_self] at hm
      cases hm
      have := (List.mem_replicate.1 hr').2
      omega
end
end Go.Proofs.YthmhehehomieiaaGreat

/- A core without cycles is a graph's: what each call comes to, said of the graph. -/
namespace Go.Proofs.YthmhehehomieiaaGreat
open Go.RowKit

/-- The core holds the graph G: its objects stand one behind the other, in the order in which they were made. -/
structure Rep (s : Co) (G : Gr) : Prop where
  calm : s.Calm
  par : s.par = 0
  hs : s.hs = G.hs.map (plc G.ns)
  lg : G.lg = s.cf.lg
  use : s.yu = tot G.ns
  d : s.d = ⟨G.ns.length, tot G.ns, 0, 0, 0, 0, 0, 0⟩
  lay : Lay s.ws G.ns
  hin : ∀ h ∈ G.hs, 0 ≤ h ∧ h ≤ G.ns.length
  wl : (s.ws.length : Int) = s.cf.words
  gx : s.gx = []
  ry : s.ry = []
  rn : s.rn.count true = 0
  room : (tot G.ns : Int) ≤ s.cf.nu
  small : ∀ n ∈ G.ns, n.1.length + n.2.length ≤ 64

theorem usedI_nil : usedI [] = 0 := rfl
theorem Co.Calm.used {s : Co} (h : s.Calm) : s.used = 0 := by unfold Co.used; rw [h.none]; rfl

section
variable {w w' : World} {b : Nat} {S : Nat → Prop} {s : Co} {G : Gr} {h : Int}

theorem Rep.has (r : Rep s G) (h : Int) : s.has h = G.has h := by
  unfold Co.has Gr.has
  rw [r.hs, List.length_map]
theorem Gr.has_iff : G.has h = true ↔ 0 ≤ h ∧ h < G.hs.length := by unfold Gr.has; rw [Bool.and_eq_true, decide_eq_true_eq, decide_eq_true_eq]
theorem Gr.held_mem (e : G.has h = true) : G.hs[h.toNat]? = some (G.held h) := by
  have := Gr.has_iff.1 e
  unfold Gr.held
  rw [List.getD_eq_getElem?_getD, List.getElem?_eq_getElem (show h.toNat < G.hs.length by omega)]
  rfl
theorem Rep.held_in (r : Rep s G) (e : G.has h = true) : 0 ≤ G.held h ∧ G.held h ≤ G.ns.length := r.hin _ (List.mem_of_getElem? (Gr.held_mem e))
theorem Rep.at_ (r : Rep s G) (e : G.has h = true) : s.at_ h = plc G.ns (G.held h) := by
  unfold Co.at_
  rw [if_pos ((r.has h).trans e), r.hs, List.getD_eq_getElem?_getD, List.getElem?_map, Gr.held_mem e]
  rfl
theorem Rep.nil (r : Rep s G) (e : G.has h = true) : s.at_ h = 0 ↔ G.held h = 0 := by
  rw [r.at_ e]; exact plc_nil (r.held_in e).1

/-- The node that a handle holds. -/
theorem Rep.node (r : Rep s G) (e : G.has h = true) (n0 : G.held h ≠ 0) : G.ns[(G.held h).toNat - 1]? = some (G.node (G.held h)) := by
  have := r.held_in e
  unfold Gr.node
  rw [List.getD_eq_getElem?_getD, List.getElem?_eq_getElem (show (G.held h).toNat - 1 < G.ns.length by omega)]
  rfl
theorem Rep.mem (r : Rep s G) (e : G.has h = true) (n0 : G.held h ≠ 0) : G.node (G.held h) ∈ G.ns := List.mem_of_getElem? (r.node e n0)

theorem Rep.place (r : Rep s G) (e : G.has h = true) (n0 : G.held h ≠ 0) : s.at_ h = (pos G.ns ((G.held h).toNat - 1) : Int) := by
  rw [r.at_ e, plc_of (by have := r.held_in e; omega)]

abbrev hd0 : HdP := ⟨0, 0, false, false, false⟩

/-- It is an object. -/
theorem Rep.ob (r : Rep s G) (e : G.has h = true) (n0 : G.held h ≠ 0) :
    Ob s h (pos G.ns ((G.held h).toNat - 1) : Int) ((G.node (G.held h)).1.length + (G.node (G.held h)).2.length : Nat) (G.node (G.held h)).1.length hd0 where
  has := (r.has h).trans e
  at_ := r.place e n0
  x0 := by have := @pos_one G.ns ((G.held h).toNat - 1); omega
  word := by
    have := (r.lay.node _ _ (r.node e n0)).head
    rw [Int.toNat_natCast]
    exact this
  good := by
    have := r.small _ (r.mem e n0)
    exact (goodB_iff ..).2 (by simp only; omega)

theorem Rep.words (r : Rep s G) (hm : s.cf.May) : 1 + (tot G.ns : Int) ≤ s.ws.length ∧ (s.ws.length : Int) ≤ 1048576 ∧ 1 + s.cf.nu ≤ s.ws.length := by
  have e := hm.words
  have := hm.nu1
  have := hm.nu0
  have := r.room
  rw [r.wl]
  unfold Cfg.words
  omega

/-- How an entry ends: an error, and what it comes to. -/
def Act13 (w : World) (b : Nat) (S : Nat → Prop) (s : Co) (E : Int) (G' : Gr) (w' : World) : Prop := ∃ s', CoR w b S s' w' ∧ Rep s' G' ∧ s'.cf = s.cf ∧ (E ≠ 0 → s' = s)

theorem Act13.same (r : Rep s G) (c : CoR w b S s w') (E : Int) : Act13 w b S s E G w' := ⟨s, c, r, rfl, fun _ => rfl⟩

/-- There is no room for what an entry makes. -/
def full (nu : Int) (G : Gr) (k a p q : Int) : Prop := k = 1 ∧ G.has a = true ∧ 0 ≤ p ∧ 0 ≤ q ∧ p ≤ G.lg - q ∧ nu - tot G.ns < p + q + 2
instance (nu : Int) (G : Gr) (k a p q : Int) : Decidable (full nu G k a p q) := by unfold full; infer_instance

def stE (nu : Int) (G : Gr) (k a p q v : Int) : Int := if full nu G k a p q then 7 else (G.change k a p q v).1
def stG (nu : Int) (G : Gr) (k a p q v : Int) : Gr := if full nu G k a p q then G else (G.change k a p q v).2

theorem stE_other {nu k a p q v : Int} (hk : k ≠ 1) : stE nu G k a p q v = (G.change k a p q v).1 := by unfold stE; rw [if_neg fun e => hk e.1]
theorem stG_other {nu k a p q v : Int} (hk : k ≠ 1) : stG nu G k a p q v = (G.change k a p q v).2 := by unfold stG; rw [if_neg fun e => hk e.1]

/-- An object was made. -/
theorem Rep.made (r : Rep s G) (hm : s.cf.May) (a p q : Int) (p0 : 0 ≤ p) (q0 : 0 ≤ q) (hl : p ≤ G.lg - q) (hr : p + q + 2 ≤ s.cf.nu - tot G.ns) :
    Rep (s.made a p q) { G with ns := G.ns ++ [(List.replicate p.toNat 0, List.replicate q.toNat 0)], hs := G.hs.set a.toNat (G.ns.length + 1) } := by
  have hz : sz (List.replicate p.toNat (0 : Int), List.replicate q.toNat (0 : Int)) = p.toNat + q.toNat + 2 := by simp [sz]
  have lg1 := hm.lg1
  have hlg := r.lg
  have hw := r.words hm
  have hn : s.next = ((1 + tot G.ns : Nat) : Int) := by
    unfold Co.next
    rw [r.calm.half, r.use]
    show 1 + (tot G.ns : Int) = _
    omega
  have epq : p + q = ((p.toNat + q.toNat : Nat) : Int) := by omega
  have ep : p = (p.toNat : Int) := by omega
  have hx : s.ws.length = (madeW s.ws s.next (p + q) (wordI (p + q) p 0 s.par false false false)).length :=
    ((madeW_at (ws := s.ws) (at_ := s.next) (s := p + q) (x := wordI (p + q) p 0 s.par false false false) (by omega) (by omega) (by omega)).2.2.2).symm
  exact
    { calm := { left := r.calm.left, half := r.calm.half, idle := r.calm.idle, still := r.calm.still, none := r.calm.none }
      par := r.par
      hs := by
        show (s.hs.set a.toNat s.next) = _
        rw [r.hs, hn]
        simp only
        rw [List.map_set]
        have : plc (G.ns ++ [(List.replicate p.toNat 0, List.replicate q.toNat 0)]) (G.ns.length + 1) = ((1 + tot G.ns : Nat) : Int) := by
          rw [plc_succ, pos_snoc (Nat.le_refl _), pos_all]
        rw [this]
        congr 1
        exact List.map_congr_left fun h hh => (plc_snoc (r.hin h hh).2).symm
      lg := r.lg
      use := by
        show s.yu + (p + q + 2) = _
        rw [r.use]
        simp only
        rw [tot_snoc, hz]
        omega
      d := by
        show Dn.mk (s.d.al + 1) (s.d.wd + (p + q + 2)) s.d.pr s.d.mi s.d.ma s.d.yo s.d.ol s.d.fr = _
        rw [r.d]
        simp only
        rw [tot_snoc, hz, List.length_append, List.length_singleton]
        congr 1
        omega
      lay := by
        show Lay (madeW s.ws s.next (p + q) (wordI (p + q) p 0 s.par false false false)) _
        have := r.lay.add p.toNat q.toNat (by omega)
        rw [hn, r.par, epq]
        conv in wordI _ p _ _ _ _ _ => rw [ep]
        exact this
      hin := fun h hh => by
        simp only at hh ⊢
        rw [List.length_append, List.length_singleton]
        rcases List.mem_or_eq_of_mem_set hh with e | rfl
        · have := r.hin h e; omega
        · omega
      wl := by
        show ((madeW s.ws s.next (p + q) (wordI (p + q) p 0 s.par false false false)).length : Int) = s.cf.words
        rw [← hx]; exact r.wl
      gx := r.gx
      ry := r.ry
      rn := r.rn
      room := by
        show ((tot (G.ns ++ [(List.replicate p.toNat 0, List.replicate q.toNat 0)]) : Nat) : Int) ≤ s.cf.nu
        rw [tot_snoc, hz]
        omega
      small := fun n hn => by
        simp only at hn
        rcases List.mem_append.1 hn with e | e
        · exact r.small n e
        · obtain rfl := List.mem_singleton.1 e
          simp only [List.length_replicate]
          omega }

theorem change_make {a p q v : Int} (e : G.has a = true) (hn : ¬ (p < 0 ∨ q < 0 ∨ G.lg < p ∨ G.lg - p < q)) :
    G.change 1 a p q v = (0, { G with ns := G.ns ++ [(List.replicate p.toNat 0, List.replicate q.toNat 0)], hs := G.hs.set a.toNat (G.ns.length + 1) }) := by
  unfold Gr.change
  rw [if_pos rfl, if_pos e, if_neg hn]
theorem change_size {a p q v : Int} (e : G.has a = true) (hn : p < 0 ∨ q < 0 ∨ G.lg < p ∨ G.lg - p < q) : G.change 1 a p q v = (6, G) := by
  unfold Gr.change
  rw [if_pos rfl, if_pos e, if_pos hn]
theorem change_no {a p q v : Int} (e : G.has a = false) : G.change 1 a p q v = (3, G) := by
  unfold Gr.change
  rw [if_pos rfl, if_neg (by rw [e]; exact Bool.false_ne_true)]

/-- Make. -/
theorem make_rep (hC : Cr w b S s) (r : Rep s G) (a p q v : Int) (q1 : q ≤ 9223372036854775807) :
    Calls Tryz.prog 33 #[ptr b, .int .i64 a, .int .i64 p, .int .i64 q] w fun e w' => e = .returned (.int .i64 (stE s.cf.nu G 1 a p q v)) ∧ Act13 w b S s (stE s.cf.nu G 1 a p q v) (stG s.cf.nu G 1 a p q v) w' := by
  have may := hC.may
  have hlg := r.lg
  have l0 := may.lg0
  have l1 := may.lg1
  unfold stE stG
  cases e : G.has a
  · rw [if_neg (fun h => Bool.false_ne_true (e.symm.trans h.2.1)), if_neg (fun h => Bool.false_ne_true (e.symm.trans h.2.1)), change_no e]
    exact (make_no_h hC a p q ((r.has a).trans e)).mono fun _ _ ⟨h1, h2⟩ => ⟨h1, by subst h2; exact .same r hC.same _⟩
  · have e' := (r.has a).trans e
    by_cases hn : p < 0 ∨ q < 0 ∨ G.lg < p ∨ G.lg - p < q
    · have nf : ¬ full s.cf.nu G 1 a p q := fun h => by obtain ⟨_, _, h3, h4, h5, _⟩ := h; omega
      rw [if_neg nf, if_neg nf, change_size e hn]
      exact (make_size hC a p q e' (by omega) q1).mono fun _ _ ⟨h1, h2⟩ => ⟨h1, by subst h2; exact .same r hC.same _⟩
    · by_cases hf : s.cf.nu - tot G.ns < p + q + 2
      · have yf : full s.cf.nu G 1 a p q := ⟨rfl, e, by omega, by omega, by omega, hf⟩
        rw [if_pos yf, if_pos yf]
        exact (make_room hC a p q e' (by omega) (by omega) (by omega) r.calm.still (by rw [r.use]; exact hf)).mono fun _ _ ⟨h1, h2⟩ => ⟨h1, .same r (hC.stay h2) _⟩
      · have nf : ¬ full s.cf.nu G 1 a p q := fun h => hf h.2.2.2.2.2
        rw [if_neg nf, if_neg nf, change_make e hn]
        have hw := r.words may
        have hnx : s.next = 1 + (tot G.ns : Int) := by unfold Co.next; rw [r.calm.half, r.use]; rfl
        have hd := r.d
        have hcount : (G.ns.length : Int) ≤ tot G.ns := by
          have : ∀ ns : List Node2, ns.length ≤ tot ns := fun ns => by
            induction ns with
            | nil => exact Nat.le_refl _
            | cons n ns ih => have : tot (n :: ns) = sz n + tot ns := by simp [tot]
                              have := @sz_two n
                              rw [List.length_cons]; omega
          have := this G.ns
          omega
        have hroom := r.room
        have hnu := may.nu1
        refine (make_yes_c hC a p q e' (by omega) (by omega) (by omega) r.calm.still (by rw [r.use]; omega) (.inl r.par) (by omega) (by omega) (by rw [hd]; simp only; omega) (by rw [hd]; simp only; omega) (by rw [hd]; simp only; omega) (by rw [hd]; simp only; omega)).mono ?_
        rintro _ _ ⟨h1, h2⟩
        exact ⟨h1, _, h2, r.made may a p q (by omega) (by omega) (by omega) (by omega), rfl, fun h => absurd rfl h⟩
end
end Go.Proofs.YthmhehehomieiaaGreat

/- Entries of a script and their answers, as values; what an entry that asks is answered. -/
namespace Go.Proofs.YthmhehehomieiaaGreat
open Go.RowKit

abbrev anV (e : Int) (y : Bool) (n v : Int) : Value := .agg #[.int .i64 e, .bool y, .int .i64 n, .int .u64 v]

/-- An entry that asks, and what it answers: an error, a flag, a number, a word. -/
def Gr.ask (G : Gr) (k a b : Int) : Int × Bool × Int × Int :=
  if k = 4 then
    if G.wrong a = 0 then
      if 0 ≤ b ∧ b < (G.node (G.held a)).2.length then (0, false, 0, (G.node (G.held a)).2.getD b.toNat 0) else (5, false, 0, 0)
    else (G.wrong a, false, 0, 0)
  else if k = 10 then
    if G.wrong a = 0 then (0, false, (G.node (G.held a)).1.length, (G.node (G.held a)).2.length) else (G.wrong a, false, 0, 0)
  else if k = 8 then
    if G.has a = true ∧ G.has b = true then (0, G.held a == G.held b, 0, 0) else (3, false, 0, 0)
  else if k = 9 then
    if G.has a = true then (0, G.held a == 0, 0, 0) else (3, false, 0, 0)
  else if (k = 11 ∨ k = 12) ∧ (a = 0 ∨ a = 1) then (0, false, 0, 0)
  else (1, false, 0, 0)

/-- Does an entry change something? -/
def turnsK (k : Int) : Prop := k = 1 ∨ k = 2 ∨ k = 3 ∨ k = 5 ∨ k = 6 ∨ k = 7

abbrev anB : Obj := .cells #[.int .i64 0, .bool false, .int .i64 0, .int .u64 0] 55
/-- An answer, laid into its box. -/
abbrev anW (w : World) (k : Nat) (e : Int) (y : Bool) (n v : Int) : World := (((w.setCell ⟨k, 0, none⟩ (.int .i64 e)).setCell ⟨k, 1, none⟩ (.bool y)).setCell ⟨k, 2, none⟩ (.int .i64 n)).setCell ⟨k, 3, none⟩ (.int .u64 v)

theorem anW_blk {w : World} {k : Nat} (h : Blk w k #[.int .i64 0, .bool false, .int .i64 0, .int .u64 0] 55) (e : Int) (y : Bool) (n v : Int) : Blk (anW w k e y n v) k #[.int .i64 e, .bool y, .int .i64 n, .int .u64 v] 55 :=
  (((h.set_ 0 _).set_ 1 _).set_ 2 _).set_ 3 _

theorem anW_frm (w : World) (k : Nat) (e : Int) (y : Bool) (n v : Int) : Frm (fun j => j = k) w (anW w k e y n v) :=
  ((((Frm.refl (fun j => j = k) w).setCell (p := ⟨k, 0, none⟩) (fun _ => rfl) _).setCell (p := ⟨k, 1, none⟩) (fun _ => rfl) _).setCell (p := ⟨k, 2, none⟩) (fun _ => rfl) _).setCell (p := ⟨k, 3, none⟩) (fun _ => rfl) _
end Go.Proofs.YthmhehehomieiaaGreat

/- Get, Set, Write, Clear, Copy; Read, Shape, Same, Nil: what each comes to, said of the graph. -/
namespace Go.Proofs.YthmhehehomieiaaGreat
open Go.RowKit

section
variable {w w' : World} {b : Nat} {S : Nat → Prop} {s : Co} {G : Gr} {h : Int}

/-- What is wrong with a handle. -/
theorem Gr.wrong_cases (G : Gr) (h : Int) : (G.has h = false ∧ G.wrong h = 3) ∨ (G.has h = true ∧ G.held h = 0 ∧ G.wrong h = 4) ∨ (G.has h = true ∧ G.held h ≠ 0 ∧ G.wrong h = 0) := by
  unfold Gr.wrong
  cases e : G.has h
  · exact .inl ⟨rfl, by rw [if_neg Bool.false_ne_true]⟩
  · by_cases z : G.held h = 0
    · exact .inr (.inl ⟨rfl, z, by rw [if_pos rfl, if_pos z]⟩)
    · exact .inr (.inr ⟨rfl, z, by rw [if_pos rfl, if_neg z]⟩)

theorem Rep.wrong (hC : Cr w b S s) (r : Rep s G) (n : G.wrong h ≠ 0) : Wrong (ptr b) h (G.wrong h) w := by
  rcases G.wrong_cases h with ⟨e, k⟩ | ⟨e, z, k⟩ | ⟨_, _, k⟩
  · rw [k]; exact wrong_no hC ((r.has h).trans e)
  · rw [k]; exact wrong_nil hC ((r.has h).trans e) ((r.nil e).2 z)
  · exact absurd k n

theorem Gr.wrong_zero (k : G.wrong h = 0) : G.has h = true ∧ G.held h ≠ 0 := by
  rcases G.wrong_cases h with ⟨e, k'⟩ | ⟨e, z, k'⟩ | ⟨e, z, _⟩
  · omega
  · omega
  · exact ⟨e, z⟩

/-- A handle holds another node. -/
theorem Rep.hold (r : Rep s G) (d q : Int) (q0 : 0 ≤ q) (q1 : q ≤ G.ns.length) : Rep (s.put (s.hs.set d.toNat (plc G.ns q))) (G.hold d q) :=
  { calm := { left := r.calm.left, half := r.calm.half, idle := r.calm.idle, still := r.calm.still, none := r.calm.none }
    par := r.par
    hs := by
      show s.hs.set d.toNat (plc G.ns q) = (G.hs.set d.toNat q).map (plc G.ns)
      rw [r.hs, List.map_set]
    lg := r.lg
    use := r.use
    d := r.d
    lay := r.lay
    hin := fun h hh => by
      rcases List.mem_or_eq_of_mem_set (show h ∈ G.hs.set d.toNat q from hh) with e | rfl
      · exact r.hin h e
      · exact ⟨q0, q1⟩
    wl := r.wl
    gx := r.gx
    ry := r.ry
    rn := r.rn
    room := r.room
    small := r.small }

/-- A node has turned. -/
theorem Rep.turn (r : Rep s G) (i : Int) (m : Node2) (vs : List Int) (hi : G.ns[i.toNat - 1]? = some (G.node i)) (hz : sz m = sz (G.node i)) (hl : Lay vs (G.ns.set (i.toNat - 1) m)) (hv : vs.length = s.ws.length) : Rep (s.wrote vs) (G.setNode i m) := by
  have es := set_sz hi hz
  exact
  { calm := { left := r.calm.left, half := r.calm.half, idle := r.calm.idle, still := r.calm.still, none := r.calm.none }
    par := r.par
    hs := by
      show s.hs = G.hs.map (plc (G.ns.set (i.toNat - 1) m))
      rw [r.hs]
      exact List.map_congr_left fun h _ => (plc_same es h).symm
    lg := r.lg
    use := by
      show s.yu = tot (G.ns.set (i.toNat - 1) m)
      rw [tot_same es]
      exact r.use
    d := by
      show s.d = ⟨(G.ns.set (i.toNat - 1) m).length, tot (G.ns.set (i.toNat - 1) m), 0, 0, 0, 0, 0, 0⟩
      rw [tot_same es, List.length_set]
      exact r.d
    lay := hl
    hin := fun h hh => by
      show 0 ≤ h ∧ h ≤ (G.ns.set (i.toNat - 1) m).length
      rw [List.length_set]
      exact r.hin h hh
    wl := by
      show (vs.length : Int) = s.cf.words
      rw [hv]
      exact r.wl
    gx := r.gx
    ry := r.ry
    rn := r.rn
    room := by
      show (tot (G.ns.set (i.toNat - 1) m) : Int) ≤ s.cf.nu
      rw [tot_same es]
      exact r.room
    small := fun n hn => by
      rcases List.mem_or_eq_of_mem_set (show n ∈ G.ns.set (i.toNat - 1) m from hn) with e | rfl
      · exact r.small n e
      · have := r.small _ (List.mem_of_getElem? hi)
        unfold sz at hz
        omega }

theorem wrap64_in' {n : Int} (h0 : 0 ≤ n) (h1 : n ≤ 9223372036854775807) : wrap64 n = n := by unfold wrap64; omega

theorem refB_no {p n : Int} (h : ¬ (0 ≤ n ∧ n < p)) : refB p n = false := by
  cases e : refB p n
  · rfl
  · exact absurd (refB_iff.1 e) h
theorem scaB_no {z p n : Int} (h : ¬ (0 ≤ n ∧ n < z - p)) : scaB z p n = false := by
  cases e : scaB z p n
  · rfl
  · exact absurd (scaB_iff.1 e) h

/-- Get: entry 2. -/
theorem get_rep (hC : Cr w b S s) (r : Rep s G) (d h n v : Int) :
    Calls Tryz.prog 35 #[ptr b, .int .i64 d, .int .i64 h, .int .i64 n] w fun e w' => e = .returned (.int .i64 (G.change 2 d h n v).1) ∧ Act13 w b S s (G.change 2 d h n v).1 (G.change 2 d h n v).2 w' := by
  unfold Gr.change
  rw [if_neg (by omega), if_pos rfl]
  by_cases k : G.wrong h = 0
  · rw [if_pos k]
    obtain ⟨e, z⟩ := Gr.wrong_zero k
    have o := r.ob e z
    have hi := r.held_in e
    cases ed : G.has d
    · rw [if_neg Bool.false_ne_true]
      exact (get_to hC o d n ((r.has d).trans ed)).mono fun _ _ ⟨h1, h2⟩ => ⟨h1, .same r h2 _⟩
    · rw [if_pos rfl]
      by_cases hn : 0 ≤ n ∧ n < (G.node (G.held h)).1.length
      · rw [if_pos hn]
        have nd := r.node e z
        have hq : (G.node (G.held h)).1[n.toNat]? = some ((G.node (G.held h)).1.getD n.toNat 0) := by
          rw [List.getD_eq_getElem?_getD, List.getElem?_eq_getElem (show n.toNat < (G.node (G.held h)).1.length by omega)]; rfl
        generalize (G.node (G.held h)).1.getD n.toNat 0 = q at *
        have hp := r.lay.refs _ _ nd q (List.mem_of_getElem? hq)
        have hw := (r.lay.node _ _ nd).refs _ _ hq
        have hwd := r.words hC.may
        have pin := @plc_in G.ns q hp.2
        have hroom := r.room
        have hnu := hC.may.nu1
        have e1 : ((pos G.ns ((G.held h).toNat - 1) : Int) + (2 + n)).toNat = pos G.ns ((G.held h).toNat - 1) + (2 + n.toNat) := by omega
        refine (get_yes hC o d n (plc G.ns q) ((r.has d).trans ed) (refB_iff.2 hn) (by rw [e1]; exact hw) (wrap64_in' (by omega) (by omega)) (r.calm.from_ _) (by rw [r.calm.idle]; omega)).mono ?_
        rintro _ _ ⟨h1, h2⟩
        exact ⟨h1, _, h2, r.hold d q hp.1 hp.2, rfl, fun h => absurd rfl h⟩
      · rw [if_neg hn]
        exact (get_field hC o d n ((r.has d).trans ed) (refB_no hn)).mono fun _ _ ⟨h1, h2⟩ => ⟨h1, .same r h2 _⟩
  · rw [if_neg k]
    exact (get_wrong d h n _ k w (r.wrong hC k)).mono fun _ _ ⟨h1, h2⟩ => ⟨h1, .same r (hC.stay h2) _⟩

/-- Set: entry 3. -/
theorem set_rep (hC : Cr w b S s) (r : Rep s G) (h n f v : Int) :
    Calls Tryz.prog 41 #[ptr b, .int .i64 h, .int .i64 n, .int .i64 f] w fun e w' => e = .returned (.int .i64 (G.change 3 h n f v).1) ∧ Act13 w b S s (G.change 3 h n f v).1 (G.change 3 h n f v).2 w' := by
  unfold Gr.change
  rw [if_neg (by omega), if_neg (by omega), if_pos rfl]
  by_cases k : G.wrong h = 0
  · rw [if_pos k]
    obtain ⟨e, z⟩ := Gr.wrong_zero k
    have o := r.ob e z
    have hi := r.held_in e
    cases ed : G.has f
    · rw [if_neg Bool.false_ne_true]
      exact (set_to hC o n f ((r.has f).trans ed)).mono fun _ _ ⟨h1, h2⟩ => ⟨h1, .same r h2 _⟩
    · rw [if_pos rfl]
      by_cases hn : 0 ≤ n ∧ n < (G.node (G.held h)).1.length
      · rw [if_pos hn]
        have nd := r.node e z
        have hq := r.held_in ed
        have hwd := r.words hC.may
        have pin := @plc_in G.ns (G.held f) hq.2
        have hend := pos_end nd
        have hroom := r.room
        have hnu := hC.may.nu1
        have e1 : ((pos G.ns ((G.held h).toNat - 1) : Int) + (2 + n)).toNat = pos G.ns ((G.held h).toNat - 1) + (2 + n.toNat) := by omega
        have hlay := r.lay.set_ref nd (k := n.toNat) (by omega) hq.1 hq.2
        refine (set_yes hC o n f (plc G.ns (G.held f)) ((r.has f).trans ed) (r.at_ ed) (by omega) (by omega) (by omega) (refB_iff.2 hn) (by unfold sz at hend; omega) (r.calm.old _)).mono ?_
        rw [e1]
        rintro _ _ ⟨h1, h2⟩
        exact ⟨h1, _, h2, r.turn (G.held h) _ _ nd (by simp [sz]) hlay (by simp), rfl, fun h => absurd rfl h⟩
      · rw [if_neg hn]
        exact (set_field hC o n f ((r.has f).trans ed) (refB_no hn)).mono fun _ _ ⟨h1, h2⟩ => ⟨h1, .same r h2 _⟩
  · rw [if_neg k]
    exact (set_wrong h n f _ k w (r.wrong hC k)).mono fun _ _ ⟨h1, h2⟩ => ⟨h1, .same r (hC.stay h2) _⟩

/-- Write: entry 5. -/
theorem write_rep (hC : Cr w b S s) (r : Rep s G) (h n c v : Int) :
    Calls Tryz.prog 40 #[ptr b, .int .i64 h, .int .i64 n, .int .u64 v] w fun e w' => e = .returned (.int .i64 (G.change 5 h n c v).1) ∧ Act13 w b S s (G.change 5 h n c v).1 (G.change 5 h n c v).2 w' := by
  unfold Gr.change
  rw [if_neg (by omega), if_neg (by omega), if_neg (by omega), if_pos rfl]
  by_cases k : G.wrong h = 0
  · rw [if_pos k]
    obtain ⟨e, z⟩ := Gr.wrong_zero k
    have o := r.ob e z
    have hi := r.held_in e
    have hz : (((G.node (G.held h)).1.length + (G.node (G.held h)).2.length : Nat) : Int) - (G.node (G.held h)).1.length = (G.node (G.held h)).2.length := by omega
    by_cases hn : 0 ≤ n ∧ n < (G.node (G.held h)).2.length
    · rw [if_pos hn]
      have nd := r.node e z
      have hwd := r.words hC.may
      have hend := pos_end nd
      have e1 : ((pos G.ns ((G.held h).toNat - 1) : Int) + (2 + ((G.node (G.held h)).1.length + n))).toNat = pos G.ns ((G.held h).toNat - 1) + (2 + ((G.node (G.held h)).1.length + n.toNat)) := by omega
      have hlay := r.lay.set_sca nd (k := n.toNat) (by omega) v
      refine (write_yes hC o n v (scaB_iff.2 (by rw [hz]; exact hn)) (by unfold sz at hend; omega)).mono ?_
      rw [e1]
      rintro _ _ ⟨h1, h2⟩
      exact ⟨h1, _, h2, r.turn (G.held h) _ _ nd (by simp [sz]) hlay (by simp), rfl, fun h => absurd rfl h⟩
    · rw [if_neg hn]
      exact (write_field hC o n v (scaB_no (by rw [hz]; exact hn))).mono fun _ _ ⟨h1, h2⟩ => ⟨h1, .same r h2 _⟩
  · rw [if_neg k]
    exact (write_wrong h n v _ k w (r.wrong hC k)).mono fun _ _ ⟨h1, h2⟩ => ⟨h1, .same r (hC.stay h2) _⟩

/-- Clear: entry 6. -/
theorem clear_rep (hC : Cr w b S s) (r : Rep s G) (h n c v : Int) :
    Calls Tryz.prog 44 #[ptr b, .int .i64 h] w fun e w' => e = .returned (.int .i64 (G.change 6 h n c v).1) ∧ Act13 w b S s (G.change 6 h n c v).1 (G.change 6 h n c v).2 w' := by
  unfold Gr.change
  rw [if_neg (by omega), if_neg (by omega), if_neg (by omega), if_neg (by omega), if_pos rfl]
  cases e : G.has h
  · rw [if_neg Bool.false_ne_true]
    exact (clear_no h 3 (by omega) w (noH_no hC ((r.has h).trans e))).mono fun _ _ ⟨h1, h2⟩ => ⟨h1, by subst h2; exact .same r hC.same _⟩
  · rw [if_pos rfl]
    exact (clear_yes hC ((r.has h).trans e)).mono fun _ _ ⟨h1, h2⟩ => ⟨h1, _, h2, r.hold h 0 (by omega) (by omega), rfl, fun h => absurd rfl h⟩

/-- Copy: entry 7. -/
theorem coCopy_rep (hC : Cr w b S s) (r : Rep s G) (d f c v : Int) :
    Calls Tryz.prog 42 #[ptr b, .int .i64 d, .int .i64 f] w fun e w' => e = .returned (.int .i64 (G.change 7 d f c v).1) ∧ Act13 w b S s (G.change 7 d f c v).1 (G.change 7 d f c v).2 w' := by
  unfold Gr.change
  rw [if_neg (by omega), if_neg (by omega), if_neg (by omega), if_neg (by omega), if_neg (by omega), if_pos rfl]
  cases ef : G.has f
  · rw [if_neg (fun h => Bool.false_ne_true h.2)]
    exact (coCopy_no d f 3 (by omega) w (noH_no hC ((r.has f).trans ef))).mono fun _ _ ⟨h1, h2⟩ => ⟨h1, by subst h2; exact .same r hC.same _⟩
  · cases ed : G.has d
    · rw [if_neg (fun h => Bool.false_ne_true h.1)]
      exact (coCopy_to hC f ((r.has f).trans ef) ((r.has d).trans ed)).mono fun _ _ ⟨h1, h2⟩ => ⟨h1, by subst h2; exact .same r hC.same _⟩
    · rw [if_pos ⟨rfl, rfl⟩]
      have hf := r.held_in ef
      have := coCopy_yes hC f ((r.has f).trans ef) ((r.has d).trans ed)
      rw [r.at_ ef] at this
      exact this.mono fun _ _ ⟨h1, h2⟩ => ⟨h1, _, h2, r.hold d _ hf.1 hf.2, rfl, fun h => absurd rfl h⟩

/-- Read: entry 4. -/
theorem read_rep (hC : Cr w b S s) (r : Rep s G) (h n : Int) :
    Calls Tryz.prog 37 #[ptr b, .int .i64 h, .int .i64 n] w fun e w' => e = .returned (.tuple #[.int .u64 (G.ask 4 h n).2.2.2, .int .i64 (G.ask 4 h n).1]) ∧ (G.ask 4 h n).2.1 = false ∧ (G.ask 4 h n).2.2.1 = 0 ∧ CoR w b S s w' := by
  unfold Gr.ask
  rw [if_pos rfl]
  by_cases k : G.wrong h = 0
  · rw [if_pos k]
    obtain ⟨e, z⟩ := Gr.wrong_zero k
    have o := r.ob e z
    have hi := r.held_in e
    have hz : (((G.node (G.held h)).1.length + (G.node (G.held h)).2.length : Nat) : Int) - (G.node (G.held h)).1.length = (G.node (G.held h)).2.length := by omega
    by_cases hn : 0 ≤ n ∧ n < (G.node (G.held h)).2.length
    · rw [if_pos hn]
      have nd := r.node e z
      have hq : (G.node (G.held h)).2[n.toNat]? = some ((G.node (G.held h)).2.getD n.toNat 0) := by
        rw [List.getD_eq_getElem?_getD, List.getElem?_eq_getElem (show n.toNat < (G.node (G.held h)).2.length by omega)]; rfl
      have hw := (r.lay.node _ _ nd).scas _ _ hq
      have e1 : ((pos G.ns ((G.held h).toNat - 1) : Int) + (2 + ((G.node (G.held h)).1.length + n))).toNat = pos G.ns ((G.held h).toNat - 1) + (2 + ((G.node (G.held h)).1.length + n.toNat)) := by omega
      exact (read_yes hC o n _ (scaB_iff.2 (by rw [hz]; exact hn)) (by rw [e1]; exact hw)).mono fun _ _ ⟨h1, h2⟩ => ⟨h1, rfl, rfl, h2⟩
    · rw [if_neg hn]
      exact (read_field hC o n (scaB_no (by rw [hz]; exact hn))).mono fun _ _ ⟨h1, h2⟩ => ⟨h1, rfl, rfl, h2⟩
  · rw [if_neg k]
    exact (read_wrong h n _ k w (r.wrong hC k)).mono fun _ _ ⟨h1, h2⟩ => ⟨h1, rfl, rfl, hC.stay h2⟩

/-- Shape: entry 10. -/
theorem shape_rep (hC : Cr w b S s) (r : Rep s G) (h n : Int) :
    Calls Tryz.prog 34 #[ptr b, .int .i64 h] w fun e w' => e = .returned (.tuple #[.int .i64 (G.ask 10 h n).2.2.1, .int .i64 (G.ask 10 h n).2.2.2, .int .i64 (G.ask 10 h n).1]) ∧ (G.ask 10 h n).2.1 = false ∧ CoR w b S s w' := by
  unfold Gr.ask
  rw [if_neg (by omega), if_pos rfl]
  by_cases k : G.wrong h = 0
  · rw [if_pos k]
    obtain ⟨e, z⟩ := Gr.wrong_zero k
    have hz : (((G.node (G.held h)).1.length + (G.node (G.held h)).2.length : Nat) : Int) - (G.node (G.held h)).1.length = (G.node (G.held h)).2.length := by omega
    have := shape_yes hC (r.ob e z)
    rw [hz] at this
    exact this.mono fun _ _ ⟨h1, h2⟩ => ⟨h1, rfl, h2⟩
  · rw [if_neg k]
    exact (shape_wrong h _ w (r.wrong hC k)).mono fun _ _ ⟨h1, h2⟩ => ⟨h1, rfl, hC.stay h2⟩

/-- Same: entry 8. -/
theorem same_rep (hC : Cr w b S s) (r : Rep s G) (h f : Int) :
    Calls Tryz.prog 43 #[ptr b, .int .i64 h, .int .i64 f] w fun e w' => e = .returned (.tuple #[.bool (G.ask 8 h f).2.1, .int .i64 (G.ask 8 h f).1]) ∧ (G.ask 8 h f).2.2 = (0, 0) ∧ w = w' := by
  unfold Gr.ask
  rw [if_neg (by omega), if_neg (by omega), if_pos rfl]
  cases eh : G.has h
  · rw [if_neg (fun h => Bool.false_ne_true h.1)]
    exact (same_no h f 3 (by omega) w (noH_no hC ((r.has h).trans eh))).mono fun _ _ ⟨h1, h2⟩ => ⟨h1, rfl, h2⟩
  · cases ef : G.has f
    · rw [if_neg (fun h => Bool.false_ne_true h.2)]
      exact (same_to hC f ((r.has h).trans eh) ((r.has f).trans ef)).mono fun _ _ ⟨h1, h2⟩ => ⟨h1, rfl, h2⟩
    · rw [if_pos ⟨rfl, rfl⟩]
      have i1 := r.held_in eh
      have i2 := r.held_in ef
      have := same_yes hC f ((r.has h).trans eh) ((r.has f).trans ef)
      rw [r.at_ eh, r.at_ ef, show decide (plc G.ns (G.held h) = plc G.ns (G.held f)) = (G.held h == G.held f) by
        by_cases e : G.held h = G.held f
        · rw [e]; simp
        · rw [decide_eq_false fun q => e (plc_inj i1.1 i1.2 i2.1 i2.2 q)]; exact (beq_false_of_ne e).symm] at this
      exact this.mono fun _ _ ⟨h1, h2⟩ => ⟨h1, rfl, h2⟩

/-- Nil: entry 9. -/
theorem nil_rep (hC : Cr w b S s) (r : Rep s G) (h f : Int) :
    Calls Tryz.prog 36 #[ptr b, .int .i64 h] w fun e w' => e = .returned (.tuple #[.bool (G.ask 9 h f).2.1, .int .i64 (G.ask 9 h f).1]) ∧ (G.ask 9 h f).2.2 = (0, 0) ∧ w = w' := by
  unfold Gr.ask
  rw [if_neg (by omega), if_neg (by omega), if_neg (by omega), if_pos rfl]
  cases eh : G.has h
  · rw [if_neg Bool.false_ne_true]
    exact (nil_no h 3 (by omega) w (noH_no hC ((r.has h).trans eh))).mono fun _ _ ⟨h1, h2⟩ => ⟨h1, rfl, h2⟩
  · rw [if_pos rfl]
    have := nil_yes hC ((r.has h).trans eh)
    rw [show decide (s.at_ h = 0) = (G.held h == 0) by
      by_cases e : G.held h = 0
      · rw [decide_eq_true ((r.nil eh).2 e), e]; rfl
      · rw [decide_eq_false fun q => e ((r.nil eh).1 q)]; exact (beq_false_of_ne e).symm] at this
    exact this.mono fun _ _ ⟨h1, h2⟩ => ⟨h1, rfl, h2⟩
end
end Go.Proofs.YthmhehehomieiaaGreat

/- The statements' configurations: config. -/
namespace Go.Proofs.YthmhehehomieiaaGreat
open Go.RowKit

/-- The configuration that the statements draw. -/
def cfgOf (a b c d : Int) : Cfg where
  ha := a % 5 + 2
  nu := 24 + b % 60
  ps := b / 16 % 12 + 1
  pz := 16 + 16 * (a / 64)
  cd := (16 + 16 * (a / 64)) / (if c % 3 = 0 then 1 else if c % 3 = 1 then 2 else 4)
  bf := c / 4 % 4
  st := c / 16 % 4 + 1
  tn := c / 64 % 3 + 1
  lg := d % 8 + 1
  mi := d / 8 % 8
  ma := d / 64 * 2
  na := 12 + a % 8
  ja := b % 3 % 2

/-- A byte. -/
def By (a : Int) : Prop := 0 ≤ a ∧ a ≤ 255

/-- A divisor of the page. -/
def dvK (c : Int) : Int := if c % 3 = 0 then 1 else if c % 3 = 1 then 2 else 4
theorem dvK_in (c : Int) : dvK c = 1 ∨ dvK c = 2 ∨ dvK c = 4 := by unfold dvK; split <;> (try split) <;> simp
theorem dvK_wrap (c : Int) : wrap64 (2 ^ (c % 3).toNat) = dvK c := by
  unfold dvK
  have h : c % 3 = 0 ∨ c % 3 = 1 ∨ c % 3 = 2 := by omega
  rcases h with h | h | h <;> rw [h] <;> simp [wrap64]
theorem dvK_div (c x : Int) (x0 : 0 ≤ x) (x1 : x ≤ 100) : wrap64 (x.tdiv (dvK c)) = x / dvK c := by
  rcases dvK_in c with h | h | h <;> rw [h] <;> rw [Int.tdiv_eq_ediv_of_nonneg x0] <;> unfold wrap64 <;> omega

theorem cfgOf_may (a b c d : Int) (ha : By a) (hb : By b) (hc : By c) (hd : By d) : (cfgOf a b c d).May := by
  obtain ⟨a0, a1⟩ := ha
  obtain ⟨b0, b1⟩ := hb
  obtain ⟨c0, c1⟩ := hc
  obtain ⟨d0, d1⟩ := hd
  have e : (cfgOf a b c d).cd = (16 + 16 * (a / 64)) / dvK c := rfl
  constructor
  case cd0 => rw [e]; rcases dvK_in c with h | h | h <;> rw [h] <;> omega
  case cd1 =>
    rw [e]
    show (16 + 16 * (a / 64)).tmod _ = 0
    refine Int.tmod_eq_zero_of_dvd ?_
    rcases dvK_in c with h | h | h <;> rw [h]
    · rw [Int.ediv_one]; exact Int.dvd_refl _
    · exact ⟨2, by omega⟩
    · exact ⟨4, by omega⟩
  all_goals simp only [cfgOf]; omega

set_option maxHeartbeats 4000000 in
theorem config_any (a b c d : Int) (ha : By a) (hb : By b) (hc : By c) (hd : By d) (w : World) :
    Calls Tryz.prog 24 #[.int .u8 a, .int .u8 b, .int .u8 c, .int .u8 d] w fun e w' => e = .returned (cfgOf a b c d).v ∧ Below w.heap.size w w' := by
  obtain ⟨a0, a1⟩ := ha
  obtain ⟨b0, b1⟩ := hb
  obtain ⟨c0, c1⟩ := hc
  obtain ⟨d0, d1⟩ := hd
  have hk := dvK_wrap c
  have hd := dvK_div c (16 + 16 * (a / 64)) (by omega) (by omega)
  have k0 : ¬ dvK c = 0 := by rcases dvK_in c with h | h | h <;> rw [h] <;> omega
  have hE : (cfgOf a b c d).cd = (16 + 16 * (a / 64)) / dvK c := rfl
  have HE := Lib.hid hE
  clear hE
  go_enter Tryz.func24, Tryz.ntmps24
  go_wp2
  exact bodyPost_ret (v := (cfgOf a b c d).v) (by simp [results, Tryz.results24, go_sem]; exact ⟨rfl, rfl, rfl, rfl, HE.out.symm, rfl, rfl, rfl, rfl, rfl, rfl, rfl, rfl⟩) rfl ⟨rfl, (Below.refl _ _).alloc (Nat.le_refl _) _⟩
end Go.Proofs.YthmhehehomieiaaGreat
