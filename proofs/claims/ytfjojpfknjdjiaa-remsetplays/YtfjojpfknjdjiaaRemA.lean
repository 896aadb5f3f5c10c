/- A side of the program's set: its buffer and its table in memory; contracts of count, add, next, and of the function that makes an empty one. -/
import Derived.Test.YtfjojpfknjdjiaaBufC
import Derived.Test.YtfjojpfknjdjiaaCardB
import Derived.Laws.EntriesVeiled
import Derived.Handy
namespace Go.Proofs.Ytfjojpfknjdjiaa
open Go.RowKit

/-- Of what was there only blocks of S have turned; what is held now was of S, or is new. -/
structure Mv (S S' : Nat → Prop) (w w' : World) : Prop where
  frm : Frm S w w'
  at_ : ∀ k, S' k → S k ∨ w.heap.size ≤ k

section
variable {S S' S'' : Nat → Prop} {w w' w'' : World}
theorem Mv.of_below (h : Below w.heap.size w w') : Mv S S w w' := ⟨Frm.of_below h, fun _ hk => .inl hk⟩
theorem Mv.trans (h : Mv S S' w w') (k : Mv S' S'' w' w'') : Mv S S'' w w'' :=
  ⟨h.frm.trans k.frm fun i hi e => (h.at_ i e).resolve_right (by omega), fun i e => (k.at_ i e).elim (h.at_ i) fun h2 => .inr (Nat.le_trans h.frm.size h2)⟩
theorem Mv.pre (f : Below w.heap.size w w') (k : Mv S S' w' w'') : Mv S S' w w'' := (Mv.of_below f).trans k
theorem Mv.post (h : Mv S S' w w') (f : Below w'.heap.size w' w'') : Mv S S' w w'' := h.trans (Mv.of_below f)
end

/-- Blocks b and t are a buffer with room for M, which holds xs, and a table of C words a card of W, from F on, with the marks ms; they and what they hold lie in blocks of S. -/
structure Sd (w : World) (b t : Nat) (S : Nat → Prop) (M F W C : Int) (xs : List Int) (ms : List Bool) : Prop where
  buf : ∃ A c, IsBuf w b M A xs.length c xs ∧ ∀ k, blkOf A = some k → S k
  tab : ∃ mb, IsTb w t mb F W C ms ∧ S mb
  sb : S b
  st : S t
  lt : ∀ k, S k → k < w.heap.size

abbrev sdV (b t : Nat) : Value := .agg #[bfP b, tbP t]

section
variable {S S' : Nat → Prop} {w w' : World} {b t : Nat} {M F W C : Int} {xs : List Int} {ms : List Bool}
theorem Sd.frm (h : Sd w b t S M F W C xs ms) (f : Frm S' w w') (dis : ∀ k, S k → ¬ S' k) : Sd w' b t S M F W C xs ms := by
  obtain ⟨⟨A, c, hb, hA⟩, ⟨mb, ht, hm⟩, sb, st, lt⟩ := h
  exact ⟨⟨A, c, hb.frm f (dis _ sb) fun k hk => dis k (hA k hk), hA⟩, ⟨mb, { ht with blk := ht.blk.frm f (dis _ st), row := ht.row.frm f (dis _ hm) }, hm⟩, sb, st, fun k hk => Nat.lt_of_lt_of_le (lt k hk) f.size⟩

theorem Sd.keep (h : Sd w b t S M F W C xs ms) (f : Below w.heap.size w w') : Sd w' b t S M F W C xs ms := h.frm (S' := fun _ => False) (Frm.of_below f) fun _ _ e => e

theorem Sd.m0 (h : Sd w b t S M F W C xs ms) : 0 ≤ M := by obtain ⟨A, c, hb, _⟩ := h.buf; exact hb.m0
theorem Sd.few (h : Sd w b t S M F W C xs ms) : (xs.length : Int) ≤ 1048576 := by obtain ⟨A, c, hb, _⟩ := h.buf; have := hb.few; have := hb.m1; omega
theorem Sd.room (h : Sd w b t S M F W C xs ms) : (xs.length : Int) ≤ M := by obtain ⟨A, c, hb, _⟩ := h.buf; exact hb.few
theorem Sd.marks (h : Sd w b t S M F W C xs ms) : ms.length ≤ 1048576 := by obtain ⟨mb, ht, _⟩ := h.tab; exact ht.few
theorem Sd.count_le (h : Sd w b t S M F W C xs ms) : ms.count true ≤ 1048576 := Nat.le_trans (List.count_le_length) h.marks

/-- The buffer has turned. -/
theorem Sd.bufT {A A' : Option Addr} {n c n' c' : Nat} {ys : List Int} {mb : Nat} (hb : IsBuf w b M A n c xs) (hA : ∀ k, blkOf A = some k → S k) (ht : IsTb w t mb F W C ms) (hm : S mb) (sb : S b) (st : S t) (lt : ∀ k, S k → k < w.heap.size)
    (h' : IsBuf w' b M A' n' c' ys) (k : BufT b A A' w w') : ∃ S', Sd w' b t S' M F W C ys ms ∧ Mv S S' w w' := by
  obtain rfl : ys.length = n' := h'.row.len
  have no : ∀ {g : Nat} {cs : Array Value} {ty : TypeId}, Blk w g cs ty → ty ≠ 69 → ty ≠ 3 → ¬ (g = b ∨ blkOf A = some g) := by
    rintro g cs ty hg n1 n2 (rfl | e)
    · exact Blk.ne_ hg hb.blk n1 rfl
    · rcases hb.row.lies with ⟨rfl, _⟩ | ⟨g', off, cs', rfl, hb', _⟩
      · cases e
      · cases e
        exact Blk.ne_ hg hb' n2 rfl
  refine ⟨fun j => S j ∨ blkOf A' = some j, ⟨⟨A', c', h', fun j hj => .inr hj⟩, ⟨mb, { ht with blk := ht.blk.frm k.frm (no ht.blk (by decide) (by decide)), row := ht.row.frm k.frm (no ht.row (by decide) (by decide)) }, .inl hm⟩, .inl sb, .inl st, ?_⟩, ?_, ?_⟩
  · rintro j (hj | hj)
    · exact Nat.lt_of_lt_of_le (lt j hj) k.frm.size
    · exact h'.row.lt hj
  · exact k.frm.mono fun i _ e => e.elim (fun e => e ▸ sb) (hA i)
  · rintro j (hj | hj)
    · exact .inl hj
    · exact (k.at_ j hj).imp (hA j) id

/-- The marks have turned. -/
theorem Sd.tabT {A : Option Addr} {n c : Nat} {ks : List Bool} {mb : Nat} (hb : IsBuf w b M A n c xs) (hA : ∀ k, blkOf A = some k → S k) (ht : IsTb w t mb F W C ms) (hm : S mb) (sb : S b) (st : S t) (lt : ∀ k, S k → k < w.heap.size)
    (k : Tn t mb F W C ks w w') : Sd w' b t S M F W C xs ks ∧ Mv S S w w' := by
  obtain rfl : xs.length = n := hb.row.len
  refine ⟨⟨⟨A, c, hb.frm k.frm (fun e => Blk.ne_ hb.blk ht.row (by decide) e) ?_, hA⟩, ⟨mb, k.is, hm⟩, sb, st, fun j hj => Nat.lt_of_lt_of_le (lt j hj) k.frm.size⟩, k.frm.mono fun i _ e => e ▸ hm, fun j hj => .inl hj⟩
  rintro j hj rfl
  rcases hb.row.lies with ⟨rfl, _⟩ | ⟨g', off, cs', rfl, hb', _⟩
  · cases hj
  · cases hj
    exact Blk.ne_ hb' ht.row (by decide) rfl
end

section
variable (S : Nat → Prop) (b t : Nat) (M F W C : Int) (xs : List Int) (ms : List Bool) (w : World)

/-- The box that a side is laid into. -/
abbrev sbx (b t : Nat) : Obj := .cells #[bfP b, tbP t] 52

set_option maxHeartbeats 4000000 in
theorem sd_count (h : Sd w b t S M F W C xs ms) :
    Calls Try.prog 17 #[sdV b t] w fun e w' => e = .returned (.int .i64 (xs.length + ms.count true : Nat)) ∧ Below w.heap.size w w' := by
  have few := h.few
  have cnt := h.count_le
  obtain ⟨⟨A, c, hb, hA⟩, ⟨mb, ht, hm⟩, sb, st, lt⟩ := h
  have bw : Below w.heap.size w (w.alloc (sbx b t)) := (Below.refl _ _).alloc (Nat.le_refl _) _
  have kb := Blk.new w #[bfP b, tbP t] 52
  have d0 := kb.cell 0
  have d1 := kb.cell 1
  have df := kb.frozen
  have HL := Lib.hid (fun n => Calls.quiet_of_same ((bfLen_any b M A _ c xs ((w.alloc (sbx b t)).drewN n) ((hb.keep bw).keep (below_drewN _ _))).mono fun e w' ⟨he, hw⟩ => ⟨he, hw.symm⟩))
  have HC := Lib.hid (fun n => Calls.quiet_of_same ((cCount_any t mb F W C ms ((w.alloc (sbx b t)).drewN n) ((ht.keep bw).keep (below_drewN _ _))).mono fun e w' ⟨he, hw⟩ => ⟨he, hw.symm⟩))
  have BW := Lib.hid bw
  have e1 : IntKind.i64.wrap ((xs.length : Int) + (ms.count true : Nat)) = ((xs.length + ms.count true : Nat) : Int) := by rw [IntWalk.i64_in _ (by omega)]; omega
  clear hb hA ht hm sb st lt bw kb
  unfold sdV bfP tbP at *
  go_enter Try.func17, Try.ntmps17
  go_wp2_with fail
  go_big_quiet (first | (go_at_call 25; exact HL.out _) | (go_at_call 26; exact HC.out _))
  go_wp2
  go_ret
  exact ⟨rfl, below_trans BW.out (below_drewN _ _)⟩

set_option maxHeartbeats 4000000 in
theorem sd_put (x : Int) (h : Sd w b t S M F W C xs ms) (hn : (xs.length : Int) < M) :
    Calls Try.prog 18 #[sdV b t, .int .i64 x] w fun e w' => e = .returned (.tuple #[]) ∧ ∃ S', Sd w' b t S' M F W C (xs ++ [x]) ms ∧ Mv S S' w w' := by
  obtain ⟨⟨A, c, hb, hA⟩, ⟨mb, ht, hm⟩, sb, st, lt⟩ := h
  have bw : Below w.heap.size w (w.alloc (sbx b t)) := (Below.refl _ _).alloc (Nat.le_refl _) _
  have kb := Blk.new w #[bfP b, tbP t] 52
  have d0 := kb.cell 0
  have df := kb.frozen
  have HP := Lib.hid (bfPut_yes b M A _ c xs x _ (hb.keep bw) hn)
  have HT := Lib.hid (fun w' A' n' c' (h' : IsBuf w' b M A' n' c' (xs ++ [x])) (k : BufT b A A' (w.alloc (sbx b t)) w') => (Sd.bufT (hb.keep bw) hA (ht.keep bw) hm sb st (fun k hk => Nat.lt_of_lt_of_le (lt k hk) bw.size) h' k).imp fun _ hs => And.intro hs.1 (hs.2.pre bw))
  clear hb hA ht hm sb st lt bw kb hn
  unfold sdV bfP tbP at *
  go_enter Try.func18, Try.ntmps18
  go_wp2_with fail
  refine HP.out.mono ?_
  rintro e w1 ⟨rfl, A', c', h', k⟩
  have R := Lib.hid (HT.out _ _ _ _ h' k)
  clear h' k HT HP d0 df
  go_wp2
  go_end0
  exact ⟨rfl, R.out⟩

set_option maxHeartbeats 4000000 in
theorem sd_mark (x : Int) (j : Nat) (h : Sd w b t S M F W C xs ms) (hn : M ≤ xs.length) (x0 : F ≤ x) (x1 : x < F + W) (hj : (x - F) / C = j) :
    Calls Try.prog 18 #[sdV b t, .int .i64 x] w fun e w' => e = .returned (.tuple #[]) ∧ ∃ S', Sd w' b t S' M F W C xs (ms.set j true) ∧ Mv S S' w w' := by
  obtain ⟨⟨A, c, hb, hA⟩, ⟨mb, ht, hm⟩, sb, st, lt⟩ := h
  have bw : Below w.heap.size w (w.alloc (sbx b t)) := (Below.refl _ _).alloc (Nat.le_refl _) _
  have kb := Blk.new w #[bfP b, tbP t] 52
  have d0 := kb.cell 0
  have df := kb.frozen
  have HP := Lib.hid (bfPut_no b M A _ c xs x _ (hb.keep bw) hn)
  have HM := Lib.hid (fun w1 (f : Below (w.alloc (sbx b t)).heap.size (w.alloc (sbx b t)) w1) => cMark_yes t mb F W C ms w1 x j ((ht.keep bw).keep f) x0 x1 hj)
  have HT := Lib.hid (fun w1 w' (f : Below (w.alloc (sbx b t)).heap.size (w.alloc (sbx b t)) w1) (k : Tn t mb F W C (ms.set j true) w1 w') =>
    (show ∃ S', Sd w' b t S' M F W C xs (ms.set j true) ∧ Mv S S' w w' from
      have hs := Sd.tabT ((hb.keep bw).keep f) hA ((ht.keep bw).keep f) hm sb st (fun k hk => Nat.lt_of_lt_of_le (lt k hk) (Nat.le_trans bw.size f.size)) k
      ⟨S, hs.1, hs.2.pre (below_trans bw f)⟩))
  have HK := Lib.hid (fun w1 (f : Below (w.alloc (sbx b t)).heap.size (w.alloc (sbx b t)) w1) => kb.keep f)
  clear hb hA ht hm sb st lt bw kb hn x0 x1 hj
  unfold sdV bfP tbP at *
  go_enter Try.func18, Try.ntmps18
  go_wp2_with fail
  refine HP.out.mono ?_
  rintro e w1 ⟨rfl, f⟩
  have f1 := (HK.out _ f).cell 1
  have ff := (HK.out _ f).frozen
  have FF := Lib.hid f
  clear f d0 df HP
  go_wp2_with fail
  refine (HM.out _ FF.out).mono ?_
  rintro e w2 ⟨rfl, k⟩
  have R := Lib.hid (HT.out _ _ FF.out k)
  clear k HT HM f1 ff
  go_wp2
  go_end0
  exact ⟨rfl, R.out⟩

/-- Four results. -/
theorem results_tmp4 {fn : Func} {t u v x : Tmp} (h : fn.results = #[.tmp t, .tmp u, .tmp v, .tmp x]) (tmps : Array Value) (P : Program) (w : World) :
    (results fn tmps).run P w = .ok (.tuple #[tmps.getD t undef, tmps.getD u undef, tmps.getD v undef, tmps.getD x undef]) w := by
  simp [results, h]

set_option maxHeartbeats 4000000 in
theorem sd_next_buf (x : Int) (x0 : -9223372036854775808 ≤ x) (x1 : x < 9223372036854775807) (h : Sd w b t S M F W C (x :: xs) ms) :
    Calls Try.prog 19 #[sdV b t] w fun e w' => e = .returned (.tuple #[.int .i64 x, .int .i64 (x + 1), .bool false, .bool true]) ∧ ∃ S', Sd w' b t S' M F W C xs ms ∧ Mv S S' w w' := by
  obtain ⟨⟨A, c, hb, hA⟩, ⟨mb, ht, hm⟩, sb, st, lt⟩ := h
  have bw : Below w.heap.size w (w.alloc (sbx b t)) := (Below.refl _ _).alloc (Nat.le_refl _) _
  have kb := Blk.new w #[bfP b, tbP t] 52
  have d0 := kb.cell 0
  have df := kb.frozen
  have HP := Lib.hid (bfTake_yes b M A _ c xs x _ (hb.keep bw))
  have HT := Lib.hid (fun w' A' n' c' (h' : IsBuf w' b M A' n' c' xs) (k : BufT b A A' (w.alloc (sbx b t)) w') => (Sd.bufT (hb.keep bw) hA (ht.keep bw) hm sb st (fun k hk => Nat.lt_of_lt_of_le (lt k hk) bw.size) h' k).imp fun _ hs => And.intro hs.1 (hs.2.pre bw))
  clear hb hA ht hm sb st lt bw kb
  unfold sdV bfP tbP at *
  go_enter Try.func19, Try.ntmps19
  go_wp2_with fail
  refine HP.out.mono ?_
  rintro e w1 ⟨rfl, A', c', h', k⟩
  have R := Lib.hid (HT.out _ _ _ _ h' k)
  clear h' k HT HP d0 df
  go_wp2
  (try simp only [Exit.inBlock, Exit.then])
  refine bodyPost_ret (results_tmp4 rfl _ _ _) rfl ?_
  exact ⟨rfl, R.out⟩

set_option maxHeartbeats 4000000 in
theorem sd_next_none (h : Sd w b t S M F W C [] ms) (hn : ∀ i : Nat, ms[i]? ≠ some true) :
    Calls Try.prog 19 #[sdV b t] w fun e w' => e = .returned (.tuple #[.int .i64 0, .int .i64 0, .bool false, .bool false]) ∧ Below w.heap.size w w' := by
  obtain ⟨⟨A, c, hb, hA⟩, ⟨mb, ht, hm⟩, sb, st, lt⟩ := h
  have bw : Below w.heap.size w (w.alloc (sbx b t)) := (Below.refl _ _).alloc (Nat.le_refl _) _
  have kb := Blk.new w #[bfP b, tbP t] 52
  have d0 := kb.cell 0
  have d1 := kb.cell 1
  have df := kb.frozen
  have HP := Lib.hid (bfTake_no b M A c _ (hb.keep bw))
  have HF := Lib.hid ((cFirst_any t mb F W C ms _ 0 (ht.keep bw) (by omega)).mono fun e w' ⟨r, ok, he, hf, hw⟩ => (show e = Ending.returned (.tuple #[.int .i64 0, .bool false]) ∧ w.alloc (sbx b t) = w' from by
    have := hf.one (r' := 0) (ok' := false) (Or.inr ⟨rfl, rfl, fun i _ => hn i⟩)
    rw [he, this.1, this.2]
    exact ⟨rfl, hw⟩))
  have BW := Lib.hid bw
  clear hb hA ht hm sb st lt bw kb hn
  unfold sdV bfP tbP at *
  go_enter Try.func19, Try.ntmps19
  go_wp2_with fail
  refine HP.out.mono ?_
  rintro e w1 ⟨rfl, rfl⟩
  go_wp2_with fail
  refine HF.out.mono ?_
  rintro e w1 ⟨rfl, rfl⟩
  go_wp2
  (try simp only [Exit.inBlock, Exit.then])
  refine bodyPost_ret (results_tmp4 rfl _ _ _) rfl ?_
  exact ⟨rfl, BW.out⟩

set_option maxHeartbeats 4000000 in
theorem sd_next_card (j : Nat) (h : Sd w b t S M F W C [] ms) (hj : ms[j]? = some true) (hn : ∀ i : Nat, i < j → ms[i]? = some false) :
    Calls Try.prog 19 #[sdV b t] w fun e w' => e = .returned (.tuple #[.int .i64 (F + j * C), .int .i64 (endI F W C j), .bool true, .bool true]) ∧ ∃ S', Sd w' b t S' M F W C [] (ms.set j false) ∧ Mv S S' w w' := by
  obtain ⟨⟨A, c, hb, hA⟩, ⟨mb, ht, hm⟩, sb, st, lt⟩ := h
  have bw : Below w.heap.size w (w.alloc (sbx b t)) := (Below.refl _ _).alloc (Nat.le_refl _) _
  have kb := Blk.new w #[bfP b, tbP t] 52
  have d0 := kb.cell 0
  have d1 := kb.cell 1
  have df := kb.frozen
  have jl : j < ms.length := (List.getElem?_eq_some_iff.1 hj).1
  have HP := Lib.hid (bfTake_no b M A c _ (hb.keep bw))
  have HF := Lib.hid ((cFirst_any t mb F W C ms _ 0 (ht.keep bw) (by omega)).mono fun e w' ⟨r, ok, he, hf, hw⟩ => (show e = Ending.returned (.tuple #[.int .i64 j, .bool true]) ∧ w.alloc (sbx b t) = w' from by
    have := hf.one (r' := j) (ok' := true) (Or.inl ⟨j, rfl, rfl, by omega, hj, fun i _ => hn i⟩)
    rw [he, this.1, this.2]
    exact ⟨rfl, hw⟩))
  have HC := Lib.hid (cClear_yes t mb F W C ms _ j true (ht.keep bw) hj)
  have HT := Lib.hid (fun w' (k : Tn t mb F W C (ms.set j false) (w.alloc (sbx b t)) w') =>
    (show Calls Try.prog 22 #[tbP t, .int .i64 j] w' (fun e w2 => e = .returned (.tuple #[.int .i64 (F + j * C), .int .i64 (endI F W C j)]) ∧ Below w'.heap.size w' w2) ∧ Blk w' w.heap.size #[bfP b, tbP t] 52 ∧ ∃ S', Sd w' b t S' M F W C [] (ms.set j false) ∧ Mv S S' w w' from
      have hs := Sd.tabT (hb.keep bw) hA (ht.keep bw) hm sb st (fun k hk => Nat.lt_of_lt_of_le (lt k hk) bw.size) k
      ⟨cPart_yes t mb F W C _ _ j k.is (by omega) (by rw [List.length_set]; omega), kb.frm k.frm (by rintro rfl; have := ht.row.lt; omega), S, hs.1, hs.2.pre bw⟩))
  clear hb hA ht hm sb st lt bw kb hn hj
  unfold sdV bfP tbP at *
  go_enter Try.func19, Try.ntmps19
  go_wp2_with fail
  refine HP.out.mono ?_
  rintro e w1 ⟨rfl, rfl⟩
  go_wp2_with fail
  refine HF.out.mono ?_
  rintro e w1 ⟨rfl, rfl⟩
  go_wp2_with fail
  refine HC.out.mono ?_
  rintro e w1 ⟨rfl, k⟩
  obtain ⟨hp, kb, sd⟩ := HT.out _ k
  have HP2 := Lib.hid hp
  have SD := Lib.hid sd
  have f1 := kb.cell 1
  have ff := kb.frozen
  clear hp sd kb k HT HC HF HP d0 d1 df
  go_wp2_with fail
  refine HP2.out.mono ?_
  rintro e w2 ⟨rfl, b2⟩
  have R := Lib.hid (SD.out.imp fun _ hs => And.intro (hs.1.keep b2) (hs.2.post b2))
  clear b2 HP2 SD f1 ff
  go_wp2
  (try simp only [Exit.inBlock, Exit.then])
  refine bodyPost_ret (results_tmp4 rfl _ _ _) rfl ?_
  exact ⟨rfl, R.out⟩
end

/-- The four numbers that a side is made of. -/
structure Caps (w : World) (k0 k1 k2 k3 : Nat) (m f n c : Int) : Prop where
  b0 : Blk w k0 #[.int .i64 m] 3
  b1 : Blk w k1 #[.int .i64 f] 3
  b2 : Blk w k2 #[.int .i64 n] 3
  b3 : Blk w k3 #[.int .i64 c] 3

section
variable {w w' : World} {k0 k1 k2 k3 : Nat} {m f n c : Int}
theorem Caps.keep (h : Caps w k0 k1 k2 k3 m f n c) (b : Below w.heap.size w w') : Caps w' k0 k1 k2 k3 m f n c := ⟨h.b0.keep b, h.b1.keep b, h.b2.keep b, h.b3.keep b⟩
theorem Caps.frm {S : Nat → Prop} (h : Caps w k0 k1 k2 k3 m f n c) (b : Frm S w w') (n0 : ¬ S k0) (n1 : ¬ S k1) (n2 : ¬ S k2) (n3 : ¬ S k3) : Caps w' k0 k1 k2 k3 m f n c := ⟨h.b0.frm b n0, h.b1.frm b n1, h.b2.frm b n2, h.b3.frm b n3⟩
theorem Caps.set2 (h : Caps w k0 k1 k2 k3 m f n c) {g : Nat} (n0 : ¬ k0 = g) (n1 : ¬ k1 = g) (n2 : ¬ k2 = g) (n3 : ¬ k3 = g) (i j : Nat) (u v : Value) : Caps ((w.setCell ⟨g, i, none⟩ u).setCell ⟨g, j, none⟩ v) k0 k1 k2 k3 m f n c :=
  ⟨(h.b0.far n0 _).far n0 _, (h.b1.far n1 _).far n1 _, (h.b2.far n2 _).far n2 _, (h.b3.far n3 _).far n3 _⟩
theorem Caps.four (h : Caps w k0 k1 k2 k3 m f n c) : w.cell? ⟨k0, 0, none⟩ = some (.int .i64 m) ∧ w.cell? ⟨k1, 0, none⟩ = some (.int .i64 f) ∧ w.cell? ⟨k2, 0, none⟩ = some (.int .i64 n) ∧ w.cell? ⟨k3, 0, none⟩ = some (.int .i64 c) :=
  ⟨h.b0.cell 0, h.b1.cell 0, h.b2.cell 0, h.b3.cell 0⟩
end

/-- How many cards there are. -/
def nmI (W C : Int) : Nat := ((W + C - 1) / C).toNat

/-- A pointer to a block's beginning. -/
abbrev ptr (k : Nat) : Value := .pointer (some ⟨k, 0, none⟩)

/-- What a fresh side is. -/
def Fresh (w w' : World) (b t : Nat) (m f n c : Int) : Prop :=
  Sd w' b t (fun k => w.heap.size ≤ k ∧ k < w'.heap.size) (cutI m 0 1048576) (cutI f 0 1048576) (cutI n 0 1048576) (cutI c 1 1048576) [] (List.replicate (nmI (cutI n 0 1048576) (cutI c 1 1048576)) false)

set_option maxHeartbeats 8000000 in
theorem sd_make (k0 k1 k2 k3 : Nat) (m f n c : Int) (w : World) (h : Caps w k0 k1 k2 k3 m f n c) :
    Calls Try.prog 23 #[ptr k0, ptr k1, ptr k2, ptr k3] w fun e w' => ∃ b t, e = .returned (sdV b t) ∧ Fresh w w' b t m f n c ∧ Below w.heap.size w w' := by
  have bw : Below w.heap.size w (w.alloc (.cells #[.pointer none, .pointer none] 52)) := (Below.refl _ _).alloc (Nat.le_refl _) _
  have kk := (h.keep bw).keep (below_drew _)
  have rr : Blk (w.alloc (.cells #[.pointer none, .pointer none] 52)).drew w.heap.size #[.pointer none, .pointer none] 52 := (Blk.new w _ _).drew
  have bb := below_trans bw (below_drew _)
  clear bw
  have n0 : ¬ k0 = w.heap.size := fun e => Nat.lt_irrefl _ (e ▸ h.b0.lt)
  have n1 : ¬ k1 = w.heap.size := fun e => Nat.lt_irrefl _ (e ▸ h.b1.lt)
  have n2 : ¬ k2 = w.heap.size := fun e => Nat.lt_irrefl _ (e ▸ h.b2.lt)
  have n3 : ¬ k3 = w.heap.size := fun e => Nat.lt_irrefl _ (e ▸ h.b3.lt)
  obtain ⟨g0, g1, g2, g3⟩ := h.four
  clear h
  go_enter Try.func23, Try.ntmps23
  go_wp2_with fail
  go_region_held3 (fun w' => w'.cell? ⟨k0, 0, none⟩ = some (.int .i64 m) ∧ w'.cell? ⟨k1, 0, none⟩ = some (.int .i64 f) ∧ w'.cell? ⟨k2, 0, none⟩ = some (.int .i64 n) ∧ w'.cell? ⟨k3, 0, none⟩ = some (.int .i64 c))
   (first | exact kk.four | exact (kk.set2 n0 n1 n2 n3 _ _ _ _).four)
   (first
    | (go_at_call 24; refine (bfNew_any m _).mono ?_; rintro e v1 ⟨rfl, hb, b2⟩; have hb0 := hb; have kk := kk.keep b2; have rr := rr.keep b2; have bb := below_trans bb b2; clear b2)
    | (go_at_call 21; refine (cNew_any f n c _).mono ?_; rintro e v2 ⟨t, mb, rfl, t1, t2, hN, b2⟩; have hb := hb.keep b2; have kk := kk.keep b2; have rr := rr.keep b2; have bb := below_trans bb b2; have q0 := rr.cell 0; have q1 := rr.cell 1; have qf := rr.frozen; clear b2))
  all_goals
    go_wp2
    have z1 := ((rr.set_ 0 (bfP (w.heap.size + 1))).set_ 1 (tbP t)).cell 1
    have z2 := ((rr.set_ 0 (bfP (w.heap.size + 1))).set_ 1 (tbP t)).cell 0
    have hfin : Below w.heap.size w ((v2.setCell ⟨w.heap.size, 0, none⟩ (bfP (w.heap.size + 1))).setCell ⟨w.heap.size, 1, none⟩ (tbP t)) := (bb.setCell (Nat.le_refl _) _).setCell (Nat.le_refl _) _
    have hs : (w.alloc (.cells #[.pointer none, .pointer none] 52)).drew.heap.size = w.heap.size + 1 := by simp
    have hfar : Frm (· = w.heap.size) v2 ((v2.setCell ⟨w.heap.size, 0, none⟩ (bfP (w.heap.size + 1))).setCell ⟨w.heap.size, 1, none⟩ (tbP t)) := Frm.setCell (S := (· = w.heap.size)) (Frm.setCell (S := (· = w.heap.size)) (Frm.refl _ v2) (p := ⟨w.heap.size, 0, none⟩) (fun _ => rfl) _) (p := ⟨w.heap.size, 1, none⟩) (fun _ => rfl) _
    (try simp only [Exit.inBlock, Exit.then])
    refine bodyPost_ret (v := sdV (w.heap.size + 1) t) (by simp [results, Try.results23, go_sem, z1, z2]) rfl ⟨_, _, rfl, ?_, hfin⟩
    obtain ⟨N, hN, ht⟩ := hN
    have eN : nmI (cutI n 0 1048576) (cutI c 1 1048576) = N := by unfold nmI; omega
    rw [hs] at hb
    have v1s := (hb0.blk.lt : _ < v1.heap.size)
    refine ⟨⟨none, 0, hb.frm hfar (by omega) (fun k hk => by cases hk), fun k hk => by cases hk⟩, ⟨mb, ?_, by omega, ?_⟩, ⟨by omega, ?_⟩, ⟨by omega, ?_⟩, fun k hk => hk.2⟩
    · rw [eN]
      exact { ht with blk := ht.blk.frm hfar (by omega), row := ht.row.frm hfar (by omega) }
    · exact Nat.lt_of_lt_of_le ht.row.lt hfar.size
    · exact Nat.lt_of_lt_of_le hb.blk.lt hfar.size
    · exact Nat.lt_of_lt_of_le ht.blk.lt hfar.size
end Go.Proofs.Ytfjojpfknjdjiaa
