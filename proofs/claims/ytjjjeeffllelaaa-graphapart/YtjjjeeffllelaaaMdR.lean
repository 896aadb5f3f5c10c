
/- Of no program: region_made_tail (MdQ) for operations that hang on what others made: each is shown to make something of its kind wherever what it waits for was made as the walk knows it, and it itself was not made yet. -/
import Derived.Test.YtjjjeeffllelaaaMdQ
namespace Go.Proofs.Ytjjjeeffllelaaa

theorem Made.upd_ne {m : Made} {i d : Nat} (v : Value) (h : d ≠ i) : (m.upd i v) d = m d := by
  unfold Made.upd
  rw [if_neg h]

section
variable (P : Program) (G : Made → World → Prop) (md : Region.Mode)
/-- Wherever what the operation waits for was made as m says, and it itself was made as m says (not yet), it makes something of its kind. -/
def makesR (V : Value → Prop) (i : Nat) (o : Oper) (a : Act) (m : Made) : Prop :=
  ∀ m' w, G m' w → (∀ d, (d = i ∨ ∃ e ∈ o.after, Region.binds md e = true ∧ e.on = d) → m' d = m d) → madeUpon P V (fun u w' => G (m'.upd i u) w') ((execOp a.eval o).run P w)

/-- The walk in the order of the text. -/
def wpMadeR (V : Nat → Value → Prop) (T : Act → Made → Prop) : List Oper → Nat → Act → Made → Prop
  | [], _, a, m => T a m
  | o :: rest, k, a, m => makesR P G md (V k) k o a m ∧ ∀ v, V k v → wpMadeR V T rest (k + 1) (a.put o.dst v) (m.upd k v)

def mOpR (ops : Array Oper) (V : Nat → Value → Prop) (i : Nat) (K : Act → Made → Prop) (a : Act) (m : Made) : Prop :=
  match ops[i]? with
  | none => False
  | some o => o.guard = none ∧ makesR P G md (V i) i o a m ∧ ∀ v, V i v → K (a.put o.dst v) (m.upd i v)
end

section
variable {P : Program} {G : Made → World → Prop} {md : Region.Mode} {ops : Array Oper} {V : Nat → Value → Prop}

theorem mOpR_mono {i : Nat} {K K' : Act → Made → Prop} {a : Act} {m : Made} (h : ∀ a m, K a m → K' a m) (hh : mOpR P G md ops V i K a m) : mOpR P G md ops V i K' a m := by
  unfold mOpR at *
  split
  · simp_all
  · rename_i o ho
    rw [ho] at hh
    exact ⟨hh.1, hh.2.1, fun v hv => h _ _ (hh.2.2 v hv)⟩

theorem wpOp_of_madeR {i : Nat} {K : Act → Made → Prop} {K' : Act → World → Prop} {Q : Exit → Act → World → Prop} {a : Act} {m : Made} {w : World} (hG : G m w) (h : ∀ a m w, G m w → K a m → K' a w) (hh : mOpR P G md ops V i K a m) : wpOp P ops Q i K' a w := by
  unfold mOpR at hh
  unfold wpOp
  split
  · rename_i ho; rw [ho] at hh; exact hh.elim
  · rename_i o ho
    rw [ho] at hh
    obtain ⟨hg, hm, hk⟩ := hh
    rw [if_pos (by simp [Region.wanted, hg])]
    refine .inl ?_
    have h3 := hm m w hG fun _ _ => rfl
    unfold Oper.wp
    generalize (execOp a.eval o).run P w = r at *
    cases r with
    | ok n w' =>
      cases n <;> simp only [madeUpon] at h3 <;> simp only [Oper.upon]
      case value u => exact h _ _ _ h3.2 (hk u h3.1)
      case skip => exact h _ _ _ h3.2 (hk _ h3.1)
      case enter f args =>
        refine h3.mono fun e w'' he => ?_
        obtain ⟨u, rfl, hv, hg'⟩ := he
        exact h _ _ _ hg' (hk u hv)
    | halt x w' => simp only [madeUpon] at h3

/-- f operations more come up, each one of the first n, and makesR something of its kind, whichever is picked; then L. -/
def HeadMR (P : Program) (G : Made → World → Prop) (md : Region.Mode) (ops : Array Oper) (V : Nat → Value → Prop) (n : Nat) (L : Array Bool → Act → Made → Prop) : Nat → Array Bool → Act → Made → Prop
  | 0, done, a, m => L done a m
  | f + 1, done, a, m => Region.ready md ops done ≠ [] ∧ ∀ i ∈ Region.ready md ops done, i < n ∧ mOpR P G md ops V i (HeadMR P G md ops V n L f (done.setIfInBounds i true)) a m

theorem HeadMR.any {n g : Nat} {L : Array Bool → Act → Made → Prop} {Q : Exit → Act → World → Prop} (hL : ∀ done a m w, G m w → L done a m → wpAny P md ops Q g done a w) (f : Nat) :
    ∀ done a m w, G m w → HeadMR P G md ops V n L f done a m → wpAny P md ops Q (f + g) done a w := by
  induction f with
  | zero => intro done a m w hw h; rw [Nat.zero_add]; exact hL done a m w hw h
  | succ f ih =>
    intro done a m w hw h
    rw [Nat.succ_add]
    exact ⟨fun e => absurd e h.1, fun i hi => wpOp_of_madeR hw (fun a' m' w' hw' h' => ih _ a' m' w' hw' h') (h.2 i hi).2⟩

theorem makesR_same {V : Value → Prop} {i : Nat} {o : Oper} {a a' : Act} {m m' : Made} (h : execOp a'.eval o = execOp a.eval o) (hm : ∀ d, (d = i ∨ ∃ e ∈ o.after, Region.binds md e = true ∧ e.on = d) → m' d = m d) (k : makesR P G md V i o a m) : makesR P G md V i o a' m' := by
  unfold makesR at *
  rw [h]
  exact fun m2 w hw ha => k m2 w hw fun d hd => (ha d hd).trans (hm d hd)

/-- An operation of the head that may come up now may be taken first. -/
theorem HeadMR.first {n i : Nat} {o : Oper} {L : Array Bool → Act → Made → Prop} (hV : ∀ k, ∃ v, V k v) (ho : ops[i]? = some o) (hg : o.guard = none) (sel : Region.noSelect ops = true)
    (sink : Region.sinkB md ops n = true) (chain : Region.chainB md ops n = true) (hn : n < ops.size) (hin : i < n) (last : ∀ done a m, L done a m → ∀ j ∈ Region.ready md ops done, n ≤ j) (f : Nat) :
    ∀ done a m, HeadInv md ops n done →
      (∀ j oj, ops[j]? = some oj → j ≠ i → done.getD j true = false → (∀ e ∈ oj.after, Region.binds md e = true → e.on ≠ i) → o.apart ops oj = true) →
      i ∈ Region.ready md ops done → makesR P G md (V i) i o a m → (∀ v, V i v → HeadMR P G md ops V n L f (done.setIfInBounds i true) (a.put o.dst v) (m.upd i v)) → HeadMR P G md ops V n L (f + 1) done a m := by
  induction f with
  | zero =>
    intro done a m inv _ hr hy H
    refine ⟨List.ne_nil_of_mem hr, fun j hj => ?_⟩
    have hjn : j < n := Nat.lt_of_not_le fun h => tail_waits sink chain hn inv _ i rfl hin (mem_ready.1 hr).1 j h hj
    by_cases e : j = i
    · subst e
      refine ⟨hjn, ?_⟩
      unfold mOpR
      rw [ho]
      exact ⟨hg, hy, H⟩
    · obtain ⟨v, hv⟩ := hV i
      have := last _ _ _ (H v hv) j (ready_mono hj e)
      omega
  | succ f ih =>
    intro done a m inv fr hr hy H
    refine ⟨List.ne_nil_of_mem hr, fun j hj => ?_⟩
    have hjn : j < n := Nat.lt_of_not_le fun h => tail_waits sink chain hn inv _ i rfl hin (mem_ready.1 hr).1 j h hj
    by_cases e : j = i
    · subst e
      refine ⟨hjn, ?_⟩
      unfold mOpR
      rw [ho]
      exact ⟨hg, hy, H⟩
    · obtain ⟨hju, oj, hoj, hall⟩ := mem_ready.1 hj
      have off : ∀ d ∈ oj.after, Region.binds md d = true → d.on ≠ i := fun d hd hb hon => by
        have h1 := hall d hd hb
        rw [hon, getD_both (mem_ready.1 hr).1] at h1
        cases h1
      have agj : ∀ d, (d = j ∨ ∃ x ∈ oj.after, Region.binds md x = true ∧ x.on = d) → d ≠ i := fun d hd => by
        rcases hd with rfl | ⟨x, hx, hb, rfl⟩
        · exact e
        · exact off x hx hb
      obtain ⟨hiu, oi, hoi, halli⟩ := mem_ready.1 hr
      have eoi : oi = o := by rw [ho] at hoi; exact (Option.some.inj hoi).symm
      have agi : ∀ d, (d = i ∨ ∃ x ∈ o.after, Region.binds md x = true ∧ x.on = d) → d ≠ j := fun d hd => by
        rcases hd with rfl | ⟨x, hx, hb, rfl⟩
        · exact Ne.symm e
        · intro hon
          have h1 := halli x (eoi ▸ hx) hb
          rw [hon, getD_both hju] at h1
          cases h1
      have S := Region.noSelect_spec sel
      have ap := fr j oj hoj e hju off
      obtain ⟨a1, a2, a3⟩ := Oper.apart_spec ap
      have H2 : ∀ v, V i v → mOpR P G md ops V j (HeadMR P G md ops V n L f ((done.setIfInBounds i true).setIfInBounds j true)) (a.put o.dst v) (m.upd i v) := fun v hv => ((H v hv).2 j (ready_mono hj e)).2
      obtain ⟨v0, hv0⟩ := hV i
      have H0 := H2 v0 hv0
      refine ⟨hjn, ?_⟩
      unfold mOpR at H0 H2 ⊢
      rw [hoj] at H0 H2 ⊢
      simp only at H0 H2 ⊢
      refine ⟨H0.1, makesR_same (execOp_put oj (fun cs b => S j oj cs b hoj) a o.dst v0 a1).symm (fun d hd => (Made.upd_ne v0 (agj d hd)).symm) H0.2.1, fun u hu => ?_⟩
      refine ih _ _ _ (inv.set hj hjn) (fun k ok hk hki hu' hno => fr k ok hk hki ?_ hno) (ready_mono hr (Ne.symm e)) (makesR_same (execOp_put o (fun cs b => S i o cs b ho) a oj.dst u a3) (fun d hd => Made.upd_ne u (agi d hd)) hy) fun v hv => ?_
      · by_cases ek : j = k
        · subst ek; exact hju
        · rwa [getD_set_ne true ek] at hu'
      · have := (H2 v hv).2.2 u hu
        rw [Act.put_comm a v u a2, Made.upd_comm m (Ne.symm e) v u] at this
        rw [Array.setIfInBounds_comm _ _ e]
        exact this

theorem HeadMR.lex {n g : Nat} {T : Act → Made → Prop} (hV : ∀ k, ∃ v, V k v) (sel : Region.noSelect ops = true) (sink : Region.sinkB md ops n = true) (chain : Region.chainB md ops n = true) (hn : n < ops.size) (l : List Oper) :
    ∀ k done a m, (∀ j, j < l.length → l[j]? = ops[k + j]?) → (∀ o ∈ l, o.guard = none) → k + l.length = n → HeadInv md ops n done → Region.lexHead md ops g l.length k done = true → wpMadeR P G md V T l k a m →
      HeadMR P G md ops V n (fun d a' m' => Region.seqB md ops g n d = true ∧ T a' m') l.length done a m := by
  induction l with
  | nil =>
    intro k done a m _ _ hk _ hB h
    obtain rfl : k = n := by simpa using hk
    exact ⟨by simpa [Region.lexHead] using hB, h⟩
  | cons o l ih =>
    intro k done a m hl hg hk inv hB h
    have h0 : ops[k]? = some o := by simpa using (hl 0 (by simp)).symm
    have hkl : k + (l.length + 1) = n := hk
    have hkn : k < n := by omega
    simp only [List.length_cons, Region.lexHead, Bool.and_eq_true] at hB
    have hr : k ∈ Region.ready md ops done := by simpa using hB.1.1
    refine HeadMR.first hV h0 (hg o (List.mem_cons_self ..)) sel sink chain hn hkn (fun d a' m' hL => seqB_ready hL.1) l.length done a m inv (Region.free_spec h0 hB.1.2) hr h.1 fun v hv =>
      ih (k + 1) _ _ _ (fun j hj => ?_) (fun x hx => hg x (List.mem_cons_of_mem _ hx)) (by omega) (inv.set hr hkn) hB.2 (h.2 v hv)
    have := hl (j + 1) (by simp; omega)
    simpa [Nat.add_assoc, Nat.add_comm 1 j] using this

theorem wpMadeR_step {T : Act → Made → Prop} {o : Oper} {rest : List Oper} {k : Nat} {a : Act} {m : Made} (h : makesR P G md (V k) k o a m)
    (h2 : ∀ K : Act → Made → Prop, (∀ a m, wpMadeR P G md V T rest (k + 1) a m → K a m) → ∀ v, V k v → K (a.put o.dst v) (m.upd k v)) : wpMadeR P G md V T (o :: rest) k a m :=
  ⟨h, fun v hv => h2 _ (fun _ _ h => h) v hv⟩
theorem wpMadeR_nil {T : Act → Made → Prop} {k : Nat} {a : Act} {m : Made} (h : T a m) : wpMadeR P G md V T [] k a m := h

/-- The region's head is walked in the order of the text, whatever is made; its tail as it stands. -/
theorem region_made_tailR {id : Nat} {Q : Exit → Act → World → Prop} {a : Act} {w : World} {l : List Oper} (G : Made → World → Prop) (V : Nat → Value → Prop) (n : Nat) (hm : P.follows .mixedOrders = true) (hB : Region.lexTailB .any l.toArray n = true)
    (hgd : ((l.take n).all fun o => o.guard.isNone) = true) (hV : ∀ k, ∃ v, V k v) (hG : G (fun _ => none) w.drew)
    (h : wpMadeR P G .any V (fun a' m => ∀ w', G m w' → wpList P l.toArray Q (l.drop n) a' w') (l.take n) 0 a (fun _ => none)) : (Code.region id l.toArray true).wp P Q a w := by
  simp only [Region.lexTailB, Bool.and_eq_true, decide_eq_true_eq] at hB
  obtain ⟨⟨⟨⟨sel, hn⟩, sink⟩, chain⟩, lex⟩ := hB
  have hn' : n < l.length := by simpa using hn
  have e1 : (l.take n).length = n := by simp; omega
  have e2 : (l.drop n).length = l.toArray.size - n := by simp
  have inv : HeadInv .any l.toArray n (Array.replicate l.toArray.size false) :=
    ⟨by simp, fun j oj _ hj => (by rw [getD_replicate_false] at hj; cases hj), fun t _ ht => getD_in (by simpa using ht) (getD_replicate_false _ _)⟩
  have H := HeadMR.lex (md := .any) (g := l.toArray.size - n) hV sel sink chain hn (l.take n) 0 _ a _ (fun j hj => by
    have : j < n := by omega
    simp [this]) (fun o ho => by simpa using List.all_eq_true.1 hgd o ho) (by simpa using e1) inv (by rw [e1]; exact lex) h
  refine wp_region_any hm ?_
  have R := HeadMR.any (Q := Q) (g := l.toArray.size - n) (fun d a' m' w' hw' hL => by
    have := wpAny_of_seq (md := .any) (Q' := Q) (l.drop n) n d a' w' (fun j => by simp [List.getElem?_drop]) (by rw [e2]; exact hL.1) (hL.2 w' hw')
    rwa [e2] at this) _ _ _ _ { w with drawn := w.drawn + 1 } hG H
  rw [e1, show n + (l.toArray.size - n) = l.toArray.size by omega] at R
  exact R
end
end Go.Proofs.Ytjjjeeffllelaaa
