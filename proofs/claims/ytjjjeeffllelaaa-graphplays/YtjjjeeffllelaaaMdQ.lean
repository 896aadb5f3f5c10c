
/- Of no program: a region that draws its order, whose operations each make something (what they yield may hang on the order, but is of a kind known ahead) but for a forced tail: one walk in the order of the text serves. -/
import Derived.Test.YtjjjeeffllelaaaLaw
import Derived.StillTail
import Derived.Deep.Quiet
import Derived.BigQuiet
namespace Go.Proofs.Ytjjjeeffllelaaa

/-- What was made so far, by the operations' numbers. -/
abbrev Made := Nat → Option Value
def Made.upd (m : Made) (i : Nat) (v : Value) : Made := fun k => if k = i then some v else m k

theorem Made.upd_comm (m : Made) {i j : Nat} (h : i ≠ j) (v u : Value) : (m.upd i v).upd j u = (m.upd j u).upd i v := by
  funext k
  unfold Made.upd
  by_cases h1 : k = j
  · by_cases h2 : k = i
    · omega
    · rw [if_pos h1, if_neg h2, if_pos h1]
  · rw [if_neg h1]
    by_cases h2 : k = i
    · rw [if_pos h2, if_pos h2]
    · rw [if_neg h2, if_neg h2, if_neg h1]

/-- What is asked once an operation has been carried out: it yields a value of V, and T of the world behind it. -/
def madeUpon (P : Program) (V : Value → Prop) (T : Value → World → Prop) : Result Next → Prop
  | .ok (.value u) w' => V u ∧ T u w'
  | .ok .skip w' => V undef ∧ T undef w'
  | .ok (.enter f args) w' => Calls P f args w' (fun e w'' => ∃ u, e = .returned u ∧ V u ∧ T u w'')
  | _ => False

section
variable (P : Program) (G : Made → World → Prop)
/-- Whatever was made so far, the operation makes something of its kind. -/
def makes (V : Value → Prop) (i : Nat) (o : Oper) (a : Act) : Prop :=
  ∀ m w, G m w → madeUpon P V (fun u w' => G (m.upd i u) w') ((execOp a.eval o).run P w)

/-- The walk in the order of the text. -/
def wpMade (V : Nat → Value → Prop) (T : Act → Made → Prop) : List Oper → Nat → Act → Made → Prop
  | [], _, a, m => T a m
  | o :: rest, k, a, m => makes P G (V k) k o a ∧ ∀ v, V k v → wpMade V T rest (k + 1) (a.put o.dst v) (m.upd k v)

def mOp (ops : Array Oper) (V : Nat → Value → Prop) (i : Nat) (K : Act → Made → Prop) (a : Act) (m : Made) : Prop :=
  match ops[i]? with
  | none => False
  | some o => o.guard = none ∧ makes P G (V i) i o a ∧ ∀ v, V i v → K (a.put o.dst v) (m.upd i v)
end

section
variable {P : Program} {G : Made → World → Prop} {md : Region.Mode} {ops : Array Oper} {V : Nat → Value → Prop}

theorem mOp_mono {i : Nat} {K K' : Act → Made → Prop} {a : Act} {m : Made} (h : ∀ a m, K a m → K' a m) (hh : mOp P G ops V i K a m) : mOp P G ops V i K' a m := by
  unfold mOp at *
  split
  · simp_all
  · rename_i o ho
    rw [ho] at hh
    exact ⟨hh.1, hh.2.1, fun v hv => h _ _ (hh.2.2 v hv)⟩

theorem wpOp_of_made {i : Nat} {K : Act → Made → Prop} {K' : Act → World → Prop} {Q : Exit → Act → World → Prop} {a : Act} {m : Made} {w : World} (hG : G m w) (h : ∀ a m w, G m w → K a m → K' a w) (hh : mOp P G ops V i K a m) : wpOp P ops Q i K' a w := by
  unfold mOp at hh
  unfold wpOp
  split
  · rename_i ho; rw [ho] at hh; exact hh.elim
  · rename_i o ho
    rw [ho] at hh
    obtain ⟨hg, hm, hk⟩ := hh
    rw [if_pos (by simp [Region.wanted, hg])]
    refine .inl ?_
    have h3 := hm m w hG
    unfold Oper.wp
    generalize (execOp a.eval o).run P w = r at *
    cases r with
    | ok n w' =>
      cases n <;> simp only [madeUpon] at h3 <;> simp only [Oper.upon]
      case value u => exact h _ _ _ h3.2 (hk u h3.1)
      case skip => exact h _ _ _ h3.2 (hk _ h3.1)
      case enter f args =>
        refine h3.mono fun e w'' he => ?_
        obtain ⟨u, rfl, hv, hg'⟩ := he
        exact h _ _ _ hg' (hk u hv)
    | halt x w' => simp only [madeUpon] at h3

/-- f operations more come up, each one of the first n, and makes something of its kind, whichever is picked; then L. -/
def HeadM (P : Program) (G : Made → World → Prop) (md : Region.Mode) (ops : Array Oper) (V : Nat → Value → Prop) (n : Nat) (L : Array Bool → Act → Made → Prop) : Nat → Array Bool → Act → Made → Prop
  | 0, done, a, m => L done a m
  | f + 1, done, a, m => Region.ready md ops done ≠ [] ∧ ∀ i ∈ Region.ready md ops done, i < n ∧ mOp P G ops V i (HeadM P G md ops V n L f (done.setIfInBounds i true)) a m

theorem HeadM.any {n g : Nat} {L : Array Bool → Act → Made → Prop} {Q : Exit → Act → World → Prop} (hL : ∀ done a m w, G m w → L done a m → wpAny P md ops Q g done a w) (f : Nat) :
    ∀ done a m w, G m w → HeadM P G md ops V n L f done a m → wpAny P md ops Q (f + g) done a w := by
  induction f with
  | zero => intro done a m w hw h; rw [Nat.zero_add]; exact hL done a m w hw h
  | succ f ih =>
    intro done a m w hw h
    rw [Nat.succ_add]
    exact ⟨fun e => absurd e h.1, fun i hi => wpOp_of_made hw (fun a' m' w' hw' h' => ih _ a' m' w' hw' h') (h.2 i hi).2⟩

theorem makes_same {V : Value → Prop} {i : Nat} {o : Oper} {a a' : Act} (h : execOp a'.eval o = execOp a.eval o) (k : makes P G V i o a) : makes P G V i o a' := by
  unfold makes at *
  rw [h]
  exact k

/-- An operation of the head that may come up now may be taken first. -/
theorem HeadM.first {n i : Nat} {o : Oper} {L : Array Bool → Act → Made → Prop} (hV : ∀ k, ∃ v, V k v) (ho : ops[i]? = some o) (hg : o.guard = none) (sel : Region.noSelect ops = true)
    (sink : Region.sinkB md ops n = true) (chain : Region.chainB md ops n = true) (hn : n < ops.size) (hin : i < n) (last : ∀ done a m, L done a m → ∀ j ∈ Region.ready md ops done, n ≤ j) (f : Nat) :
    ∀ done a m, HeadInv md ops n done →
      (∀ j oj, ops[j]? = some oj → j ≠ i → done.getD j true = false → (∀ e ∈ oj.after, Region.binds md e = true → e.on ≠ i) → o.apart ops oj = true) →
      i ∈ Region.ready md ops done → makes P G (V i) i o a → (∀ v, V i v → HeadM P G md ops V n L f (done.setIfInBounds i true) (a.put o.dst v) (m.upd i v)) → HeadM P G md ops V n L (f + 1) done a m := by
  induction f with
  | zero =>
    intro done a m inv _ hr hy H
    refine ⟨List.ne_nil_of_mem hr, fun j hj => ?_⟩
    have hjn : j < n := Nat.lt_of_not_le fun h => tail_waits sink chain hn inv _ i rfl hin (mem_ready.1 hr).1 j h hj
    by_cases e : j = i
    · subst e
      refine ⟨hjn, ?_⟩
      unfold mOp
      rw [ho]
      exact ⟨hg, hy, H⟩
    · obtain ⟨v, hv⟩ := hV i
      have := last _ _ _ (H v hv) j (ready_mono hj e)
      omega
  | succ f ih =>
    intro done a m inv fr hr hy H
    refine ⟨List.ne_nil_of_mem hr, fun j hj => ?_⟩
    have hjn : j < n := Nat.lt_of_not_le fun h => tail_waits sink chain hn inv _ i rfl hin (mem_ready.1 hr).1 j h hj
    by_cases e : j = i
    · subst e
      refine ⟨hjn, ?_⟩
      unfold mOp
      rw [ho]
      exact ⟨hg, hy, H⟩
    · obtain ⟨hju, oj, hoj, hall⟩ := mem_ready.1 hj
      have off : ∀ d ∈ oj.after, Region.binds md d = true → d.on ≠ i := fun d hd hb hon => by
        have h1 := hall d hd hb
        rw [hon, getD_both (mem_ready.1 hr).1] at h1
        cases h1
      have S := Region.noSelect_spec sel
      have ap := fr j oj hoj e hju off
      obtain ⟨a1, a2, a3⟩ := Oper.apart_spec ap
      have H2 : ∀ v, V i v → mOp P G ops V j (HeadM P G md ops V n L f ((done.setIfInBounds i true).setIfInBounds j true)) (a.put o.dst v) (m.upd i v) := fun v hv => ((H v hv).2 j (ready_mono hj e)).2
      obtain ⟨v0, hv0⟩ := hV i
      have H0 := H2 v0 hv0
      refine ⟨hjn, ?_⟩
      unfold mOp at H0 H2 ⊢
      rw [hoj] at H0 H2 ⊢
      simp only at H0 H2 ⊢
      refine ⟨H0.1, makes_same (execOp_put oj (fun cs b => S j oj cs b hoj) a o.dst v0 a1).symm H0.2.1, fun u hu => ?_⟩
      refine ih _ _ _ (inv.set hj hjn) (fun k ok hk hki hu' hno => fr k ok hk hki ?_ hno) (ready_mono hr (Ne.symm e)) (makes_same (execOp_put o (fun cs b => S i o cs b ho) a oj.dst u a3) hy) fun v hv => ?_
      · by_cases ek : j = k
        · subst ek; exact hju
        · rwa [getD_set_ne true ek] at hu'
      · have := (H2 v hv).2.2 u hu
        rw [Act.put_comm a v u a2, Made.upd_comm m (Ne.symm e) v u] at this
        rw [Array.setIfInBounds_comm _ _ e]
        exact this

theorem HeadM.lex {n g : Nat} {T : Act → Made → Prop} (hV : ∀ k, ∃ v, V k v) (sel : Region.noSelect ops = true) (sink : Region.sinkB md ops n = true) (chain : Region.chainB md ops n = true) (hn : n < ops.size) (l : List Oper) :
    ∀ k done a m, (∀ j, j < l.length → l[j]? = ops[k + j]?) → (∀ o ∈ l, o.guard = none) → k + l.length = n → HeadInv md ops n done → Region.lexHead md ops g l.length k done = true → wpMade P G V T l k a m →
      HeadM P G md ops V n (fun d a' m' => Region.seqB md ops g n d = true ∧ T a' m') l.length done a m := by
  induction l with
  | nil =>
    intro k done a m _ _ hk _ hB h
    obtain rfl : k = n := by simpa using hk
    exact ⟨by simpa [Region.lexHead] using hB, h⟩
  | cons o l ih =>
    intro k done a m hl hg hk inv hB h
    have h0 : ops[k]? = some o := by simpa using (hl 0 (by simp)).symm
    have hkl : k + (l.length + 1) = n := hk
    have hkn : k < n := by omega
    simp only [List.length_cons, Region.lexHead, Bool.and_eq_true] at hB
    have hr : k ∈ Region.ready md ops done := by simpa using hB.1.1
    refine HeadM.first hV h0 (hg o (List.mem_cons_self ..)) sel sink chain hn hkn (fun d a' m' hL => seqB_ready hL.1) l.length done a m inv (Region.free_spec h0 hB.1.2) hr h.1 fun v hv =>
      ih (k + 1) _ _ _ (fun j hj => ?_) (fun x hx => hg x (List.mem_cons_of_mem _ hx)) (by omega) (inv.set hr hkn) hB.2 (h.2 v hv)
    have := hl (j + 1) (by simp; omega)
    simpa [Nat.add_assoc, Nat.add_comm 1 j] using this

theorem wpMade_step {T : Act → Made → Prop} {o : Oper} {rest : List Oper} {k : Nat} {a : Act} {m : Made} (h : makes P G (V k) k o a)
    (h2 : ∀ K : Act → Made → Prop, (∀ a m, wpMade P G V T rest (k + 1) a m → K a m) → ∀ v, V k v → K (a.put o.dst v) (m.upd k v)) : wpMade P G V T (o :: rest) k a m :=
  ⟨h, fun v hv => h2 _ (fun _ _ h => h) v hv⟩
theorem wpMade_nil {T : Act → Made → Prop} {k : Nat} {a : Act} {m : Made} (h : T a m) : wpMade P G V T [] k a m := h

/-- The region's head is walked in the order of the text, whatever is made; its tail as it stands. -/
theorem region_made_tail {id : Nat} {Q : Exit → Act → World → Prop} {a : Act} {w : World} {l : List Oper} (G : Made → World → Prop) (V : Nat → Value → Prop) (n : Nat) (hm : P.follows .mixedOrders = true) (hB : Region.lexTailB .any l.toArray n = true)
    (hgd : ((l.take n).all fun o => o.guard.isNone) = true) (hV : ∀ k, ∃ v, V k v) (hG : G (fun _ => none) w.drew)
    (h : wpMade P G V (fun a' m => ∀ w', G m w' → wpList P l.toArray Q (l.drop n) a' w') (l.take n) 0 a (fun _ => none)) : (Code.region id l.toArray true).wp P Q a w := by
  simp only [Region.lexTailB, Bool.and_eq_true, decide_eq_true_eq] at hB
  obtain ⟨⟨⟨⟨sel, hn⟩, sink⟩, chain⟩, lex⟩ := hB
  have hn' : n < l.length := by simpa using hn
  have e1 : (l.take n).length = n := by simp; omega
  have e2 : (l.drop n).length = l.toArray.size - n := by simp
  have inv : HeadInv .any l.toArray n (Array.replicate l.toArray.size false) :=
    ⟨by simp, fun j oj _ hj => (by rw [getD_replicate_false] at hj; cases hj), fun t _ ht => getD_in (by simpa using ht) (getD_replicate_false _ _)⟩
  have H := HeadM.lex (md := .any) (g := l.toArray.size - n) hV sel sink chain hn (l.take n) 0 _ a _ (fun j hj => by
    have : j < n := by omega
    simp [this]) (fun o ho => by simpa using List.all_eq_true.1 hgd o ho) (by simpa using e1) inv (by rw [e1]; exact lex) h
  refine wp_region_any hm ?_
  have R := HeadM.any (Q := Q) (g := l.toArray.size - n) (fun d a' m' w' hw' hL => by
    have := wpAny_of_seq (md := .any) (Q' := Q) (l.drop n) n d a' w' (fun j => by simp [List.getElem?_drop]) (by rw [e2]; exact hL.1) (hL.2 w' hw')
    rwa [e2] at this) _ _ _ _ { w with drawn := w.drawn + 1 } hG H
  rw [e1, show n + (l.toArray.size - n) = l.toArray.size by omega] at R
  exact R
end
end Go.Proofs.Ytjjjeeffllelaaa
