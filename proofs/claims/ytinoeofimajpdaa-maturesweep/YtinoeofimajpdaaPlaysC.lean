/- The program's space and the document's, side by side. -/
import Derived.Test.YtinoeofimajpdaaPlaysA
import Derived.Test.YtinoeofimajpdaaPlaysB
namespace Go.Proofs.Ytinoeofimajpdaa
open Go.RowKit

/-- Both spaces lie there, apart from each other, from what was there before w0, and from blocks of Pr. -/
def Half (M : MatSpec) (w0 w : World) (a pb b : Nat) (F G : Int) (Pr : Nat → Prop) (pr : List Pg) (sr : List Bool) (pm : List Pg) (sm : List Bool) : Prop :=
  ∃ S v, IsRef w a pb F G v pr sr ∧ M.Is w b S F G pm sm ∧ (∀ k, S k → ¬ Rf a pb v k) ∧ (∀ k, S k → w0.heap.size ≤ k) ∧ (∀ k, Rf a pb v k → w0.heap.size ≤ k) ∧ Below w0.heap.size w0 w ∧ ∀ k, Pr k → ¬ S k ∧ ¬ Rf a pb v k ∧ k < w.heap.size

section
variable {M : MatSpec} {w0 w : World} {a pb b : Nat} {F G : Int} {Pr : Nat → Prop} {pr pm : List Pg} {sr sm : List Bool}

theorem IsRef.lt {v : Value} (h : IsRef w a pb F G v pr sr) : ∀ k, Rf a pb v k → k < w.heap.size := fun k hk => by
  obtain ⟨cs, h1, _⟩ := h
  rcases hk with rfl | rfl | e
  · exact h1.sp.lt
  · exact h1.pend.lt
  · exact (h1.row.lt k e).2

theorem IsRef.stay {w' : World} {v : Value} (h : IsRef w a pb F G v pr sr) (hb : ∀ k, Rf a pb v k → w'.heap[k]? = w.heap[k]?) : IsRef w' a pb F G v pr sr := by
  obtain ⟨cs, h1, h2⟩ := h
  refine ⟨cs, { h1 with sp := (hb a (Or.inl rfl)).trans h1.sp, row := ⟨h1.row.1, h1.row.2.imp id ?_⟩, pend := (hb pb (Or.inr (Or.inl rfl))).trans h1.pend }, h2⟩
  rintro ⟨g, cap, cur, e1, e2, e3, e4⟩
  exact ⟨g, cap, cur, e1, e2, (hb g (Or.inr (Or.inr (by rw [e1]; rfl)))).trans e3, e4⟩

theorem Half.keep {w' : World} (h : Half M w0 w a pb b F G Pr pr sr pm sm) (k : Below w.heap.size w w') : Half M w0 w' a pb b F G Pr pr sr pm sm := by
  obtain ⟨S, v, h1, h2, h3, h4, h5, h6, h7⟩ := h
  exact ⟨S, v, h1.keep k, M.keep h2 k, h3, h4, h5, h6.trans (k.mono h6.size), fun i hi => ⟨(h7 i hi).1, (h7 i hi).2.1, Nat.lt_of_lt_of_le (h7 i hi).2.2 k.size⟩⟩

theorem Half.below (h : Half M w0 w a pb b F G Pr pr sr pm sm) : Below w0.heap.size w0 w := by
  obtain ⟨S, v, _, _, _, _, _, h6, _⟩ := h
  exact h6

/-- A block that is newer than both spaces is apart from them. -/
theorem Half.more {w' : World} {g : Nat} (h : Half M w0 w a pb b F G Pr pr sr pm sm) (k : Below w.heap.size w w') (hg : w.heap.size ≤ g) (hl : g < w'.heap.size) : Half M w0 w' a pb b F G (fun i => Pr i ∨ i = g) pr sr pm sm := by
  have hk := h.keep k
  obtain ⟨S, v, h1, h2, h3, h4, h5, h6, h7⟩ := h
  refine ⟨S, v, h1.keep k, M.keep h2 k, h3, h4, h5, h6.trans (k.mono h6.size), fun i hi => ?_⟩
  rcases hi with hi | rfl
  · exact ⟨(h7 i hi).1, (h7 i hi).2.1, Nat.lt_of_lt_of_le (h7 i hi).2.2 k.size⟩
  · exact ⟨fun e => by have := M.lt h2 i e; omega, fun e => by have := h1.lt i e; omega, hl⟩

theorem Half.less {Pr' : Nat → Prop} (h : Half M w0 w a pb b F G Pr pr sr pm sm) (hp : ∀ k, Pr' k → Pr k) : Half M w0 w a pb b F G Pr' pr sr pm sm := by
  obtain ⟨S, v, h1, h2, h3, h4, h5, h6, h7⟩ := h
  exact ⟨S, v, h1, h2, h3, h4, h5, h6, fun i hi => h7 i (hp i hi)⟩

/-- The program's space has turned. -/
theorem half_m {w' : World} {S S' : Nat → Prop} {v : Value} {pm' : List Pg} {sm' : List Bool} (h1 : IsRef w a pb F G v pr sr) (h3 : ∀ k, S k → ¬ Rf a pb v k) (h4 : ∀ k, S k → w0.heap.size ≤ k) (h5 : ∀ k, Rf a pb v k → w0.heap.size ≤ k) (h6 : Below w0.heap.size w0 w)
    (h7 : ∀ k, Pr k → ¬ S k ∧ ¬ Rf a pb v k ∧ k < w.heap.size) (k2 : M.Is w' b S' F G pm' sm') (f : Frm S w w') (s : ∀ k, S' k → S k ∨ w.heap.size ≤ k) :
    Half M w0 w' a pb b F G Pr pr sr pm' sm' ∧ ∀ k, Pr k → w'.heap[k]? = w.heap[k]? := by
  refine ⟨⟨S', v, h1.stay fun k hk => f.block k (h1.lt k hk) fun e => h3 k e hk, k2, fun k hk hr => ?_, fun k hk => ?_, h5, h6.trans (f.below h6.size fun k hk e => by have := h4 k e; omega), fun k hk => ⟨fun e => ?_, (h7 k hk).2.1, Nat.lt_of_lt_of_le (h7 k hk).2.2 f.size⟩⟩, fun k hk => f.block k (h7 k hk).2.2 (h7 k hk).1⟩
  · rcases s k hk with e | e
    · exact h3 k e hr
    · have := h1.lt k hr; omega
  · rcases s k hk with e | e
    · exact h4 k e
    · have := h6.size; omega
  · rcases s k e with e | e
    · exact (h7 k hk).1 e
    · have := (h7 k hk).2.2; omega

/-- The document's space has turned. -/
theorem half_r {w' : World} {S : Nat → Prop} {v v' : Value} {pr' : List Pg} {sr' : List Bool} (h2 : M.Is w b S F G pm sm) (h3 : ∀ k, S k → ¬ Rf a pb v k) (h4 : ∀ k, S k → w0.heap.size ≤ k) (h5 : ∀ k, Rf a pb v k → w0.heap.size ≤ k) (h6 : Below w0.heap.size w0 w)
    (h7 : ∀ k, Pr k → ¬ S k ∧ ¬ Rf a pb v k ∧ k < w.heap.size) (k1 : IsRef w' a pb F G v' pr' sr') (f : Frm (Rf a pb v) w w') (o : v'.ownBlock = v.ownBlock ∨ ∀ k, v'.ownBlock = some k → w.heap.size ≤ k) :
    Half M w0 w' a pb b F G Pr pr' sr' pm sm ∧ ∀ k, Pr k → w'.heap[k]? = w.heap[k]? := by
  have old : ∀ k, Rf a pb v' k → Rf a pb v k ∨ w.heap.size ≤ k := fun k hk => by
    rcases hk with e | e | e
    · exact Or.inl (Or.inl e)
    · exact Or.inl (Or.inr (Or.inl e))
    · rcases o with o | o
      · exact Or.inl (Or.inr (Or.inr (o.symm.trans e)))
      · exact Or.inr (o k e)
  refine ⟨⟨S, v', k1, M.stay h2 f.size fun k hk => f.block k (M.lt h2 k hk) (h3 k hk), fun k hk hr => ?_, h4, fun k hk => ?_, h6.trans (f.below h6.size fun k hk e => by have := h5 k e; omega), fun k hk => ⟨(h7 k hk).1, fun e => ?_, Nat.lt_of_lt_of_le (h7 k hk).2.2 f.size⟩⟩, fun k hk => f.block k (h7 k hk).2.2 (h7 k hk).2.1⟩
  · rcases old k hr with e | e
    · exact h3 k hk e
    · have := M.lt h2 k hk; omega
  · rcases old k hk with e | e
    · exact h5 k e
    · have := h6.size; omega
  · rcases old k e with e | e
    · exact (h7 k hk).2.1 e
    · have := (h7 k hk).2.2; omega

theorem mTake (h : Half M w0 w a pb b F G Pr pr sr pm sm) (n : Int) (n0 : -9223372036854775808 ≤ n) (n1 : n ≤ 9223372036854775807) :
    Calls Try.prog 10 #[spP b, .int .i64 n] w fun e w' => ∃ u pm', e = .returned u ∧ TakeA F G sm pm n u pm' ∧ Half M w0 w' a pb b F G Pr pr sr pm' sm ∧ ∀ k, Pr k → w'.heap[k]? = w.heap[k]? := by
  obtain ⟨S, v, h1, h2, h3, h4, h5, h6, h7⟩ := h
  refine (M.take n h2 n0 n1).mono ?_
  rintro e w' ⟨u, pm', S', he, t, k2, f, s⟩
  exact ⟨u, pm', he, t, half_m h1 h3 h4 h5 h6 h7 k2 f s⟩

theorem rTake (h : Half M w0 w a pb b F G Pr pr sr pm sm) (n : Int) (n1 : n ≤ 9223372036854775807) :
    Calls Try.prog 11 #[spP a, .int .i64 n] w fun e w' => ∃ u pr', e = .returned u ∧ TakeA F G sr pr n u pr' ∧ Half M w0 w' a pb b F G Pr pr' sr pm sm ∧ ∀ k, Pr k → w'.heap[k]? = w.heap[k]? := by
  obtain ⟨S, v, h1, h2, h3, h4, h5, h6, h7⟩ := h
  refine (pTake_any a pb F G n v pr sr w h1 n1).mono ?_
  rintro e w' ⟨u, pr', v', he, t, k1, f, o⟩
  exact ⟨u, pr', he, t, half_r h2 h3 h4 h5 h6 h7 k1 f o⟩

theorem mGive (h : Half M w0 w a pb b F G Pr pr sr pm sm) (n : Int) (n0 : -9223372036854775808 ≤ n) (n1 : n ≤ 9223372036854775807) :
    Calls Try.prog 12 #[spP b, .int .i64 n] w fun e w' => ∃ ok pm' sm', e = .returned (.bool ok) ∧ GiveA F G sm pm n ok pm' sm' ∧ Half M w0 w' a pb b F G Pr pr sr pm' sm' ∧ ∀ k, Pr k → w'.heap[k]? = w.heap[k]? := by
  obtain ⟨S, v, h1, h2, h3, h4, h5, h6, h7⟩ := h
  refine (M.give n h2 n0 n1).mono ?_
  rintro e w' ⟨u, pm', sm', S', he, t, k2, f, s⟩
  exact ⟨u, pm', sm', he, t, half_m h1 h3 h4 h5 h6 h7 k2 f s⟩

theorem rGive (h : Half M w0 w a pb b F G Pr pr sr pm sm) (n : Int) :
    Calls Try.prog 13 #[spP a, .int .i64 n] w fun e w' => ∃ ok pr' sr', e = .returned (.bool ok) ∧ GiveA F G sr pr n ok pr' sr' ∧ Half M w0 w' a pb b F G Pr pr' sr' pm sm ∧ ∀ k, Pr k → w'.heap[k]? = w.heap[k]? := by
  obtain ⟨S, v, h1, h2, h3, h4, h5, h6, h7⟩ := h
  refine (pGive_any a pb F G n v pr sr w h1).mono ?_
  rintro e w' ⟨ok, pr', sr', v', he, t, k1, f, o⟩
  exact ⟨ok, pr', sr', he, t, half_r h2 h3 h4 h5 h6 h7 k1 f o⟩

theorem mPend (h : Half M w0 w a pb b F G Pr pr sr pm sm) :
    Calls Try.prog 14 #[spP b] w fun e w' => e = .returned (.tuple #[]) ∧ Half M w0 w' a pb b F G Pr pr sr pm (pm.map Pg.first) ∧ ∀ k, Pr k → w'.heap[k]? = w.heap[k]? := by
  obtain ⟨S, v, h1, h2, h3, h4, h5, h6, h7⟩ := h
  refine (M.pend h2).mono ?_
  rintro e w' ⟨S', he, k2, f, s⟩
  exact ⟨he, half_m h1 h3 h4 h5 h6 h7 k2 f s⟩

theorem rPend (h : Half M w0 w a pb b F G Pr pr sr pm sm) :
    Calls Try.prog 15 #[spP a] w fun e w' => e = .returned (.tuple #[]) ∧ Half M w0 w' a pb b F G Pr pr (pr.map Pg.first) pm sm ∧ ∀ k, Pr k → w'.heap[k]? = w.heap[k]? := by
  obtain ⟨S, v, h1, h2, h3, h4, h5, h6, h7⟩ := h
  refine (pPend_any a pb F G v pr sr w h1).mono ?_
  rintro e w' ⟨he, k1, f⟩
  exact ⟨he, half_r h2 h3 h4 h5 h6 h7 k1 (f.mono fun i _ e => Or.inr (Or.inl e)) (Or.inl rfl)⟩

theorem mDone (h : Half M w0 w a pb b F G Pr pr sr pm sm) (n : Int) (n0 : -9223372036854775808 ≤ n) (n1 : n ≤ 9223372036854775807) :
    Calls Try.prog 16 #[spP b, .int .i64 n] w fun e w' => e = .returned (.bool (wasB sm n)) ∧ Half M w0 w' a pb b F G Pr pr sr pm (doneP sm n) ∧ ∀ k, Pr k → w'.heap[k]? = w.heap[k]? := by
  obtain ⟨S, v, h1, h2, h3, h4, h5, h6, h7⟩ := h
  refine (M.done n h2 n0 n1).mono ?_
  rintro e w' ⟨S', he, k2, f, s⟩
  exact ⟨he, half_m h1 h3 h4 h5 h6 h7 k2 f s⟩

/-- The law itself sets a flag of the document's space. -/
theorem Half.flag (h : Half M w0 w a pb b F G Pr pr sr pm sm) (i : Nat) (x : Bool) : Half M w0 (w.setCell ⟨pb, i, none⟩ (.bool x)) a pb b F G Pr pr (sr.set i x) pm sm ∧ ∀ k, Pr k → (w.setCell ⟨pb, i, none⟩ (.bool x)).heap[k]? = w.heap[k]? := by
  obtain ⟨S, v, h1, h2, h3, h4, h5, h6, h7⟩ := h
  obtain ⟨cs, k1, k2, k3⟩ := h1
  refine half_r h2 h3 h4 h5 h6 h7 ⟨cs, by rw [List.length_set]; exact k1.setPend i x, k2, by rw [List.length_set]; exact k3⟩ ?_ (Or.inl rfl)
  exact (Frm.refl _ w).setCell (p := ⟨pb, i, none⟩) (fun _ => Or.inr (Or.inl rfl)) _

theorem Half.five (h : Half M w0 w a pb b F G Pr pr sr pm sm) :
    w.cell? ⟨a, 0, none⟩ = some (.int .i64 F) ∧ w.cell? ⟨a, 1, none⟩ = some (.int .i64 sr.length) ∧ w.cell? ⟨a, 2, none⟩ = some (.int .i64 G) ∧ w.cell? ⟨a, 4, none⟩ = some (.slice (some ⟨pb, 0, none⟩) sr.length sr.length) ∧ (∀ (i : Nat) (x : Bool), sr[i]? = some x → w.cell? ⟨pb, i, none⟩ = some (.bool x)) ∧ ∀ i, w.frozen? ⟨pb, i, none⟩ = false := by
  obtain ⟨S, v, h1, _⟩ := h
  obtain ⟨c0, c1, c2, c4, cp⟩ := h1.five
  obtain ⟨cs, k1, _⟩ := h1
  exact ⟨c0, c1, c2, c4, cp, k1.pend.frozen⟩

theorem hAlike (h : Half M w0 w a pb b F G Pr pr sr pr sr) (n : Int) (n0 : -9223372036854775808 ≤ n) (n1 : n ≤ 9223372036854775807) :
    Calls Try.prog 18 #[spP b, spP a, .int .i64 n] w fun e w' => e = .returned (.bool true) ∧ Below w.heap.size w w' := by
  obtain ⟨S, v, h1, h2, _⟩ := h
  exact alike_any M a pb b S F G n v pr sr w h1 h2 n0 n1

theorem rStarts (h : Half M w0 w a pb b F G Pr pr sr pm sm) (f t : Int) :
    Calls Try.prog 17 #[spP a, .int .i64 f, .int .i64 t] w fun e w' => ∃ u, e = .returned u ∧ OwnI w' w.heap.size u (startsP F G pr f t) ∧ Below w.heap.size w w' := by
  obtain ⟨S, v, h1, _⟩ := h
  exact pStarts_any a pb F G f t v pr sr w h1

theorem Half.wf (h : Half M w0 w a pb b F G Pr pr sr pm sm) : WF G pm ∧ pm.length = sm.length ∧ 1 ≤ G ∧ G ≤ 256 ∧ 0 ≤ F ∧ F ≤ 1048576 ∧ sm.length ≤ 64 := by
  obtain ⟨S, v, _, h2, _⟩ := h
  exact M.wf h2
end

theorem TakeA.form {F G : Int} {ps : List Bool} {pgs pgs' : List Pg} {n : Int} {u : Value} (h : TakeA F G ps pgs n u pgs') : ∃ x y, u = .tuple #[.int .i64 x, .bool y] := by
  rcases h with ⟨_, rfl, _⟩ | ⟨_, _, ⟨p, _, _, _, rfl, _⟩ | ⟨_, rfl, _⟩⟩ | ⟨_, _, ⟨p, j, us, _, _, _, _, _, rfl, _⟩ | ⟨_, ⟨p, _, _, rfl, _⟩ | ⟨_, rfl, _⟩⟩⟩ <;> exact ⟨_, _, rfl⟩
end Go.Proofs.Ytinoeofimajpdaa
