/- The Go function tilthlaw14.MinorGrows returns true for every input, and its arguments read afterwards as they read before: the given statement MinorGrowsSaid, without further conditions. -/
import Derived.Test.YthmhehehomieiaaGreatJoinF
import Derived.Deep.DeepCutAuto
import Derived.StillTailTactics
import Derived.Deep.CutBlock

/- One object, through cycles: it is older by one in each; from some age on it is old. Of lists alone. -/
namespace Go.Proofs.YthmhehehomieiaaGreat
namespace Gc
open Go.RowKit

/-- Nothing is in use of the pages. -/
def Clr (s : Co) : Prop := 16 ≤ s.cf.pz ∧ s.cf.tn ≤ 7 ∧ 1 ≤ s.pgs.length ∧ ∀ g ∈ s.pgs, g = Pg.free

theorem take_clear {F G : Int} {ps : List Bool} {pgs pgs' : List Pg} (G0 : 16 ≤ G) (hl : 1 ≤ pgs.length) (h : ∀ g ∈ pgs, g = Pg.free) : ¬ TakeA F G ps pgs 3 noT pgs' := by
  have r : roundI 3 = 4 := rnd_first (by omega)
  unfold TakeA
  rw [r]
  rintro (⟨h1, _⟩ | ⟨_, h1, _⟩ | ⟨_, _, h1⟩)
  · omega
  · omega
  · rcases h1 with ⟨_, _, _, _, _, _, _, _, e, _⟩ | ⟨_, ⟨_, _, _, e, _⟩ | ⟨e, _⟩⟩
    · unfold noT yesV at e; simp at e
    · unfold noT yesV at e; simp at e
    · have h0 : pgs[0]? = some (pgs[0]'(by omega)) := List.getElem?_eq_getElem _
      exact e 0 (by rw [h0, h _ (List.getElem_mem _)])

/-- What is known within a cycle of the one object, that was k cycles old. -/
inductive Mid (k : Int) (s : Co) (A : Hp) : Prop
  | un {p : Int} {o : Ob} : A.F = [] → A.O = [] → A.E = [p] → A.ob p = some o → o.way = p → o.age = k → o.n = 1 → Clr s → k < s.cf.tn → Mid k s A
  | yg {p q : Int} {v o : Ob} : A.F = [q] → A.O = [] → A.E = [p] → A.ob p = some v → v.way ≠ p → A.ob q = some o → o.age = k + 1 → Clr s → k + 1 < s.cf.tn → Mid k s A
  | ol {q : Int} {o : Ob} : A.F = [] → A.O = [q] → A.ob q = some o → o.age = s.cf.tn → (A.E = [] ∨ ∃ p v, A.E = [p] ∧ A.ob p = some v ∧ v.way ≠ p) → s.cf.tn ≤ k + 1 → Mid k s A

section
variable {s t : Co} {A B : Hp} {G : Gph} {k p r : Int}

theorem ageI_small {a : Int} (h : a < 7) : ageI a = a + 1 := by
  unfold ageI
  rw [if_pos (by omega)]

theorem MoveD.mid (m : MoveD s A p t B r) (h : Mid k s A) : Mid k t B := by
  cases m with
  | stay _ => exact h
  | gone _ _ _ => exact h
  | @old o _ pgs' e ho hw hq q0 ht tk =>
    cases h with
    | @un p1 o1 hF hO hE h1 h2 h3 h4 h5 h6 =>
      rw [hE, List.mem_singleton] at e
      subst e
      rw [ho] at h1
      cases h1
      have ne : p ≠ r := fun z => by rw [z, hq] at ho; cases ho
      have a1 : ageI o.age = k + 1 := by rw [h3]; exact ageI_small (by have := h5.2.1; omega)
      refine .ol (q := r) (o := { s.agedO o with way := r, noted := false, rs := o.rs, ss := o.ss }) hF ?_ upd_self ?_ (.inr ⟨p, { o with way := r }, hE, ?_, Ne.symm ne⟩) ?_
      · show A.O ++ [r] = [r]
        rw [hO]; rfl
      · show ageI o.age = s.cf.tn
        omega
      · show upd (upd A.ob p { o with way := r }) r _ p = _
        rw [upd_ne ne, upd_self]
      · show s.cf.tn ≤ k + 1
        omega
    | @yg p1 q1 v o1 hF hO hE h1 h2 h3 h4 h5 h6 =>
      rw [hE, List.mem_singleton] at e
      subst e
      rw [ho] at h1
      cases h1
      exact absurd hw h2
    | @ol q1 o1 hF hO h1 h2 hE h4 =>
      rcases hE with hE | ⟨p1, v, hE, h5, h6⟩
      · rw [hE] at e; cases e
      · rw [hE, List.mem_singleton] at e
        subst e
        rw [ho] at h5
        cases h5
        exact absurd hw h6
  | @young o e ho hw hq q0 hc =>
    cases h with
    | @un p1 o1 hF hO hE h1 h2 h3 h4 h5 h6 =>
      rw [hE, List.mem_singleton] at e
      subst e
      rw [ho] at h1
      cases h1
      have ne : p ≠ hAt s.cf.nu 1 s.yn + s.yu := fun z => by rw [← z, ho] at hq; cases hq
      have a1 : ageI o.age = k + 1 := by rw [h3]; exact ageI_small (by have := h5.2.1; omega)
      have lt : k + 1 < s.cf.tn := by
        rcases hc with hc | hc
        · omega
        · rw [h4] at hc
          exact absurd hc (take_clear h5.1 h5.2.2.1 h5.2.2.2)
      refine .yg (p := p) (q := hAt s.cf.nu 1 s.yn + s.yu) (v := { o with way := hAt s.cf.nu 1 s.yn + s.yu }) (o := { s.agedO o with way := hAt s.cf.nu 1 s.yn + s.yu, noted := false, rs := o.rs, ss := o.ss }) ?_ hO hE ?_ (Ne.symm ne) upd_self a1 h5 lt
      · show A.F ++ [hAt s.cf.nu 1 s.yn + s.yu] = _
        rw [hF]; rfl
      · show upd (upd A.ob p _) _ _ p = _
        rw [upd_ne ne, upd_self]
    | @yg p1 q1 v o1 hF hO hE h1 h2 h3 h4 h5 h6 =>
      rw [hE, List.mem_singleton] at e
      subst e
      rw [ho] at h1
      cases h1
      exact absurd hw h2
    | @ol q1 o1 hF hO h1 h2 hE h4 =>
      rcases hE with hE | ⟨p1, v, hE, h5, h6⟩
      · rw [hE] at e; cases e
      · rw [hE, List.mem_singleton] at e
        subst e
        rw [ho] at h5
        cases h5
        exact absurd hw h6

theorem Prims.mid (h : Prims s A t B) : Mid k s A → Mid k t B := by
  induction h with
  | refl => exact id
  | trans _ _ h1 h2 => exact fun g => h2 (h1 g)
  | move _ _ m => exact m.mid
  | @put s A p o o' vs hE ho hw ha hs hr =>
    intro h
    have ob : ∀ u v, A.ob u = some v → ∃ v', (A.put p o').ob u = some v' ∧ v'.age = v.age ∧ v'.way = v.way := fun u v hv => by
      by_cases z : u = p
      · subst z
        rw [ho] at hv
        cases hv
        exact ⟨o', upd_self, ha, hw⟩
      · exact ⟨v, (upd_ne z).trans hv, rfl, rfl⟩
    cases h with
    | @un p1 o1 hF hO hE1 h1 h2 h3 h4 h5 h6 =>
      have ne : p1 ≠ p := fun z => hE (by rw [hE1, ← z]; simp)
      exact .un hF hO hE1 ((upd_ne ne).trans h1) h2 h3 h4 h5 h6
    | @yg p1 q1 v o1 hF hO hE1 h1 h2 h3 h4 h5 h6 =>
      obtain ⟨v1, e1, e2, e3⟩ := ob p1 v h1
      obtain ⟨v2, e4, e5, e6⟩ := ob q1 o1 h3
      exact .yg hF hO hE1 e1 (by rw [e3]; exact h2) e4 (by rw [e5]; exact h4) h5 h6
    | @ol q1 o1 hF hO h1 h2 hE1 h4 =>
      obtain ⟨v2, e4, e5, e6⟩ := ob q1 o1 h1
      refine .ol hF hO e4 (by rw [e5]; exact h2) (hE1.imp id ?_) h4
      rintro ⟨p1, v, h5, h6, h7⟩
      obtain ⟨v1, e1, e2, e3⟩ := ob p1 v h6
      exact ⟨p1, v1, h5, e1, by rw [e3]; exact h7⟩
  | @side s t A B h0 h1 _ h3 h4 h5 h6 _ =>
    intro h
    have cl : Clr s → Clr t := fun c => by unfold Clr at c ⊢; rw [h0, h1]; exact c
    cases h with
    | un hF hO hE1 k1 k2 k3 k4 k5 k6 => exact .un (h4.trans hF) (h6.trans hO) (h5.trans hE1) ((congrFun h3 _).trans k1) k2 k3 k4 (cl k5) (by rw [h0]; exact k6)
    | yg hF hO hE1 k1 k2 k3 k4 k5 k6 => exact .yg (h4.trans hF) (h6.trans hO) (h5.trans hE1) ((congrFun h3 _).trans k1) k2 ((congrFun h3 _).trans k3) k4 (cl k5) (by rw [h0]; exact k6)
    | ol hF hO k1 k2 hE1 k4 =>
      refine .ol (h4.trans hF) (h6.trans hO) ((congrFun h3 _).trans k1) (by rw [h0]; exact k2) ?_ (by rw [h0]; exact k4)
      rw [h5, h3]
      exact hE1

/-- One object that refers to itself; it is j cycles old. -/
structure OneS (j : Int) (s : Co) (A : Hp) (p : Int) (o : Ob) : Prop where
  cyc : Cyc s A
  mv : s.mv = false
  h0 : s.hs[0]? = some p
  hs : ∀ q ∈ s.hs, q = 0 ∨ q = p
  ob : A.ob p = some o
  rs : o.rs = [p]
  ss : o.ss = []
  gen : (A.F = [p] ∧ A.O = [] ∧ o.age = j ∧ j < s.cf.tn ∧ Clr s) ∨ (A.F = [] ∧ A.O = [p] ∧ o.age = s.cf.tn ∧ s.cf.tn ≤ j)

/-- What a graph of one node is like. -/
structure OneG (G : Gph) (n : Int) : Prop where
  h0 : G.hs[0]? = some n
  hs : ∀ q ∈ G.hs, q = 0 ∨ q = n
  n0 : n ≠ 0
  nd : G.nd n = some ([n], [])

variable {j : Int} {o : Ob}
theorem OneS.graph (h : OneS j s A p o) : OneG A.gph p := by
  have now : ∀ y, A.now y = y := fun y => Hp.now_no (by rw [(h.cyc.idle h.mv).1]; simp)
  have hs : A.gph.hs = s.hs := by
    show A.hs.map A.now = s.hs
    rw [h.cyc.sim.hs]
    exact (List.map_congr_left fun y _ => now y).trans (List.map_id _)
  refine ⟨by rw [hs]; exact h.h0, by rw [hs]; exact h.hs, fun e => ?_, ?_⟩
  · have := h.cyc.inv.ob_pos h.ob; omega
  · show (A.ob p).map (fun o : Ob => (o.rs.map A.now, o.ss)) = _
    rw [h.ob, Option.map_some, h.rs, h.ss, List.map_cons, now]
    rfl

theorem OneS.mid (h : OneS j s A p o) : Mid j (Co.begun s) A.start := by
  obtain ⟨hE, _⟩ := h.cyc.idle h.mv
  rcases h.gen with ⟨hF, hO, ha, hj, hc⟩ | ⟨hF, hO, ha, hj⟩
  · exact .un (p := p) (o := o) rfl hO hF h.ob (h.cyc.inv.self p o (by rw [hF]; simp) h.ob) ha (by unfold Ob.n; rw [h.rs, h.ss]; rfl) hc hj
  · exact .ol (q := p) (o := o) rfl hO h.ob ha (.inl hF) (by show s.cf.tn ≤ j + 1; omega)

theorem OneS.back {l : Bool} {f : Int → Int} {n : Int} (m : Mid k s A) (c : Cyc (Co.ended s l) A.stop) (hm : (Co.ended s l).mv = false) (g : OneG G n) (r : Rep A.stop G f) : ∃ p o, OneS (k + 1) (Co.ended s l) A.stop p o := by
  have now : ∀ y, A.stop.now y = y := fun y => Hp.now_no (by show y ∉ []; simp)
  have hd : G.Held n := .root (List.mem_of_getElem? g.h0) g.n0
  obtain ⟨d, o, h1, h2, _, h4, h5⟩ := r.node n hd
  rw [g.nd] at h1
  cases h1
  have hs : (Co.ended s l).hs = G.hs.map f := by
    have := r.hs
    rw [← c.sim.hs, ← this]
    exact ((List.map_congr_left fun y _ => now y).trans (List.map_id _)).symm
  have rs : o.rs = [f n] := by
    rw [← show o.rs.map A.stop.now = o.rs from (List.map_congr_left fun y _ => now y).trans (List.map_id _), h4]
    rfl
  have inL := (c.inv.dom (f n)).1 ⟨o, h2⟩
  have obA : A.ob (f n) = some o := by
    have h2 : (if f n ∈ A.E then none else A.ob (f n)) = some o := h2
    split at h2
    · cases h2
    · exact h2
  refine ⟨f n, o, c, hm, by rw [hs, List.getElem?_map, g.h0]; rfl, fun q hq => ?_, h2, rs, h5, ?_⟩
  · rw [hs] at hq
    obtain ⟨u, hu, rfl⟩ := List.mem_map.1 hq
    rcases g.hs u hu with e | e
    · exact .inl (by rw [e]; exact r.z)
    · exact .inr (by rw [e])
  · cases m with
    | un hF hO _ _ _ _ _ _ _ =>
      rcases inL with e | e | e
      · have e : f n ∈ A.F := e
        rw [hF] at e; cases e
      · cases e
      · have e : f n ∈ A.O := e
        rw [hO] at e; cases e
    | yg hF hO _ _ _ k3 k4 k5 k6 =>
      rcases inL with e | e | e
      · have e : f n ∈ A.F := e
        rw [hF, List.mem_singleton] at e
        rw [← e, obA] at k3
        cases k3
        exact .inl ⟨by show A.F = _; rw [hF, e], hO, k4, k6, k5⟩
      · cases e
      · have e : f n ∈ A.O := e
        rw [hO] at e; cases e
    | ol hF hO k1 k2 _ k4 =>
      rcases inL with e | e | e
      · have e : f n ∈ A.F := e
        rw [hF] at e; cases e
      · cases e
      · have e : f n ∈ A.O := e
        rw [hO, List.mem_singleton] at e
        rw [← e, obA] at k1
        cases k1
        exact .inr ⟨hF, by show A.O = _; rw [hO, e], k2, k4⟩
end
end Gc
end Go.Proofs.YthmhehehomieiaaGreat

/- What was met, in a box beside the core; the walk of meet. -/
namespace Go.Proofs.YthmhehehomieiaaGreat
namespace Gc
open Go.RowKit

theorem ix_eq {a : Int} : ∀ {l : List Int} {i : Nat}, l[i]? = some a → (∀ j < i, l[j]? ≠ some a) → ix a l = some i
  | [], _, h, _ => by simp at h
  | b :: l, 0, h, _ => by
    have : b = a := by simpa using h
    unfold ix
    rw [if_pos this]
  | b :: l, i + 1, h, n => by
    have nb : b ≠ a := fun e => n 0 (by omega) (by simp [e])
    unfold ix
    rw [if_neg nb, ix_eq (l := l) (i := i) (by simpa using h) fun j hj => by have := n (j + 1) (by omega); simpa using this]
    rfl
theorem ix_no {a : Int} {l : List Int} (h : ∀ j < l.length, l[j]? ≠ some a) : ix a l = none := ix_none.2 fun m => by
  obtain ⟨j, hj, e⟩ := List.getElem_of_mem m
  exact h j hj (by rw [List.getElem?_eq_getElem hj, e])

/-- A core, and what was met in a box beside it; blocks of Z are another's. -/
def Mw (w0 w : World) (Z : Nat → Prop) (b : Nat) (s : Co) (mb : Nat) (A : Option Addr) (n c : Nat) (met : List Int) : Prop :=
  Km w0 w (fun k => Z k ∨ k = mb ∨ blkOf A = some k) b s ∧ Qu w A n c met ∧ Blk w mb #[.slice A n c] 39 ∧ ¬ Z mb ∧ blkOf A ≠ some mb ∧ ∀ k, blkOf A = some k → ¬ Z k

section
variable {w0 w w' : World} {Z Z' : Nat → Prop} {b mb n c : Nat} {s : Co} {A : Option Addr} {met : List Int}

theorem Mw.write {T : Nat → Prop} (h : Mw w0 w Z b s mb A n c met) (f : Frm T w w') (ht : ∀ k, k < w.heap.size → T k → Z k) (hz : ∀ k, Z' k → Z k ∨ (w.heap.size ≤ k ∧ k < w'.heap.size)) : Mw w0 w' Z' b s mb A n c met := by
  obtain ⟨k, q, x, h1, h2, h3⟩ := h
  refine ⟨k.write f (fun j hj e => .inl (ht j hj e)) (fun j hj => ?_), q.frm f fun j hj e => h3 j hj (ht j (q.lt hj) e), x.frm f fun e => h1 (ht _ x.lt e), fun e => ?_, h2, fun j hj e => ?_⟩
  · rcases hj with e | e | e
    · exact (hz j e).imp .inl id
    · exact .inl (.inr (.inl e))
    · exact .inl (.inr (.inr e))
  · rcases hz _ e with z | z
    · exact h1 z
    · have := x.lt; omega
  · rcases hz _ e with z | z
    · exact h3 j hj z
    · have := q.lt hj; omega
theorem Mw.keep (h : Mw w0 w Z b s mb A n c met) (f : Below w.heap.size w w') : Mw w0 w' Z b s mb A n c met :=
  h.write (T := fun _ => False) (Frm.of_below f) (fun _ _ e => e.elim) fun _ => .inl
theorem Mw.less (h : Mw w0 w Z b s mb A n c met) (hz : ∀ k, Z' k → Z k) : Mw w0 w Z' b s mb A n c met :=
  h.write (T := fun _ => False) (Frm.of_below (Below.refl _ w)) (fun _ _ e => e.elim) fun k hk => .inl (hz k hk)

/-- A call that leaves the core as it is. -/
theorem Mw.look {P : Program} {fn : FuncId} {args : Array Value} {R : Ending → Prop} (h : Mw w0 w Z b s mb A n c met) (q : ∀ S, Cr w b S s → Calls P fn args w fun e w' => R e ∧ CoR w b S s w') :
    Calls P fn args w fun e w' => R e ∧ Mw w0 w' Z b s mb A n c met ∧ Kp Z w w' := by
  obtain ⟨k, qu, x, h1, h2, h3⟩ := h
  refine (k.look q).mono ?_
  rintro e w' ⟨r, k2, p⟩
  exact ⟨r, ⟨k2, qu.kp p fun j hj => .inr (.inr hj), x.kp p (.inr (.inl rfl)), h1, h2, h3⟩, p.mono fun j _ hn hz => hn (.inl hz)⟩

/-- One more is met. -/
theorem Mw.more {w1 w2 : World} {A' : Option Addr} {c' : Nat} {p : Int} (h : Mw w0 w Z b s mb A n c met) (f : Below w.heap.size w w1) (q : Qu w2 A' (n + 1) c' (met ++ [p])) (g : Grw A A' w1 w2) :
    Mw w0 (w2.setCell ⟨mb, 0, none⟩ (.slice A' (n + 1) c')) Z b s mb A' (n + 1) c' (met ++ [p]) ∧ Kp Z w (w2.setCell ⟨mb, 0, none⟩ (.slice A' (n + 1) c')) ∧ w2.cell? ⟨mb, 0, none⟩ = some (.slice A n c) ∧ w2.frozen? ⟨mb, 0, none⟩ = false := by
  obtain ⟨k, qu, x, h1, h2, h3⟩ := h.keep f
  have na : blkOf A' ≠ some mb := fun e => by
    rcases g.at_ _ e with z | z
    · exact h2 z
    · have := x.lt; omega
  have x2 := x.frm g.frm fun e => h2 e
  have fr : Frm (fun j => j = mb ∨ blkOf A = some j) w1 (w2.setCell ⟨mb, 0, none⟩ (.slice A' (n + 1) c')) := (g.frm.mono fun j _ e => .inr e).setCell (p := ⟨mb, 0, none⟩) (fun _ => .inl rfl) _
  have sz : (w2.setCell ⟨mb, 0, none⟩ (.slice A' (n + 1) c')).heap.size = w2.heap.size := by simp
  refine ⟨⟨k.write fr (fun j _ e => .inr e) fun j hj => ?_, q.frm (show Frm (fun j => j = mb) w2 (w2.setCell ⟨mb, 0, none⟩ (.slice A' (n + 1) c')) from Frm.setCell (S := fun j => j = mb) (Frm.refl _ _) (p := ⟨mb, 0, none⟩) (fun _ => rfl) _) fun j hj e => na (e ▸ hj), by have := x2.set_ 0 (.slice A' (n + 1) c'); simpa using this, h1, na, fun j hj e => ?_⟩, (Kp.of_below f).trans (fr.mono fun j _ e z => e.elim (fun e => h1 (e ▸ z)) fun e => h3 j e z), x2.cell 0, x2.frozen 0⟩
  · rcases hj with e | e | e
    · exact .inl (.inl e)
    · exact .inl (.inr (.inl e))
    · rcases g.at_ _ e with z | z
      · exact .inl (.inr (.inr z))
      · exact .inr ⟨z, by rw [sz]; exact q.lt e⟩
  · rcases g.at_ _ hj with z | z
    · exact h3 j z e
    · have := (k.low j (.inl e)).2; omega
end

/-- What a call of meet comes to. -/
def MtR (w0 w : World) (Z : Nat → Prop) (b : Nat) (s : Co) (mb : Nat) (r : List Int × Int) (e : Ending) (w' : World) : Prop :=
  e = .returned (.int .i64 r.2) ∧ (∃ A c, Mw w0 w' Z b s mb A r.1.length c r.1) ∧ Kp Z w w'

set_option maxHeartbeats 4000000 in
theorem meet14_any {w0 w : World} {Z : Nat → Prop} {b mb n c : Nat} {s : Co} {H : Hp} {A : Option Addr} {met : List Int} (h : Mw w0 w Z b s mb A n c met) (cy : Cyc s H) {y : Int} (hy : H.ok y) (few : met.length ≤ 1048575) :
    Calls Tryz.prog 96 #[ptr b, .pointer (some ⟨mb, 0, none⟩), .int .i64 y] w (MtR w0 w Z b s mb (meet H.now met y)) := by
  have HN := Lib.hid (h.look fun S hC => now_sim hC cy.sim cy.inv hy)
  have LN := Lib.hid h.2.1.len
  have MT : ∀ q, H.now y = q → Hid ((q = 0 → meet H.now met y = (met, 0)) ∧ (∀ i : Nat, q ≠ 0 → met[i]? = some q → (∀ j < i, met[j]? ≠ some q) → meet H.now met y = (met, (i : Int) + 1)) ∧ (q ≠ 0 → (∀ j < met.length, met[j]? ≠ some q) → meet H.now met y = (met ++ [q], (met.length : Int) + 1))) := fun q e => Lib.hid (by
    subst e
    refine ⟨fun e => ?_, fun i n0 e hj => ?_, fun n0 hj => ?_⟩
    · unfold meet; rw [if_pos e]
    · unfold meet; rw [if_neg n0, ix_eq e hj]
    · unfold meet; rw [if_neg n0, ix_no hj])
  have MQ := MT _ rfl
  clear MT h cy hy
  generalize meet H.now met y = R at *
  go_enter Tryz.func96, Tryz.ntmps96
  go_wp2_with fail
  refine HN.out.mono ?_
  rintro e w1 ⟨rfl, m1, p1⟩
  generalize H.now y = q at *
  have M1 := Lib.hid m1
  have P1 := Lib.hid p1
  clear p1 HN
  by_cases q0 : q = 0
  · have RE : Hid (MtR w0 w Z b s mb R (.returned (.int .i64 0)) w1) := Lib.hid ⟨by rw [MQ.out.1 q0], by rw [MQ.out.1 q0]; exact ⟨A, c, by rw [LN.out]; exact m1⟩, P1.out⟩
    subst q0
    clear m1 M1 P1
    go_wp2
    go_ret
    exact RE.out
  · have mc : w1.cell? ⟨mb, 0, none⟩ = some (.slice A n c) := m1.2.2.1.cell 0
    have nf : n ≤ 1048575 := by have := LN.out; omega
    clear m1
    go_wp2_with fail
    clear mc
    go_loopw [8] (fun s8 wr => ∃ i : Nat, i ≤ n ∧ s8 = .int .i64 i ∧ wr = w1 ∧ Hid (∀ j < i, met[j]? ≠ some q)) (fun s8 _ => n - (intOf s8).toNat)
    case atStart => exact ⟨0, Nat.zero_le _, rfl, rfl, Lib.hid fun j hj => absurd hj (Nat.not_lt_zero j)⟩
    case round =>
      obtain ⟨i, hi, rfl, rfl, HJ⟩ := hrel
      by_cases hlt : i < n
      · have hx : met[i]? = some (met[i]'(by have := LN.out; omega)) := List.getElem?_eq_getElem _
        generalize met[i]'(by have := LN.out; omega) = x at hx
        obtain ⟨g1, o1, rfl, _, d1, _⟩ := M1.out.2.1.at_ (by omega)
        have x1 := d1 i x hx
        have j0 : (0 : Int) ≤ (i : Int) := by omega
        have j1 : (i : Int) < (n : Int) := by omega
        by_cases e : x = q
        · have RE : Hid (MtR w0 w Z b s mb R (.returned (.int .i64 ((i : Int) + 1))) wr) := Lib.hid (by
            have z := MQ.out.2.1 i q0 (by rw [hx, e]) HJ.out
            exact ⟨by rw [z], by rw [z]; exact ⟨_, c, by rw [LN.out]; exact M1.out⟩, P1.out⟩)
          have i6 : i ≤ 1048576 := by have := LN.out; omega
          have hw : IntKind.i64.wrap ((i : Int) + 1) = (i : Int) + 1 := IntWalk.i64_in _ (by omega)
          subst e
          clear d1 hx HJ M1 P1 MQ
          go_wp2
          go_ret
          exact RE.out
        · have HK := Lib.hid (show ∀ j < i + 1, met[j]? ≠ some q from fun j hj => by
            by_cases z : j = i
            · subst z; rw [hx]; simpa using e
            · exact HJ.out j (by omega))
          have e2 : (x == q) = false := by rw [beq_eq_false_iff_ne]; exact e
          clear d1 hx HJ
          go_wp2
          go_roundw
          case rel => exact ⟨i + 1, by omega, by go_num, by simp, HK⟩
          case measure => simp [intOf]; omega
      · obtain rfl : n = i := by omega
        have qu := M1.out.2.1
        have f1 := (Below.refl _ wr).alloc (Nat.le_refl _) (.cells #[.int .i64 q] 3)
        have Q2 := Lib.hid (qu.keep f1)
        have E2 := Lib.hid (show (wr.alloc (.cells #[.int .i64 q] 3)).cell? ⟨wr.heap.size, 0, none⟩ = some (.int .i64 q) from (Blk.new wr #[.int .i64 q] 3).cell 0)
        have F1 := Lib.hid f1
        clear qu f1
        go_wp2_with (first
          | (at_builtin; (refine wpList_append_qu _ rfl _ _ rfl Q2.out (by have := LN.out; omega) q ⟨wr.heap.size, 0, none⟩ 1 rfl rfl E2.out ?_))
          | fail)
        intro A' c' w2 q2 g2
        obtain ⟨m3, p3, ex2, cf2⟩ := M1.out.more F1.out q2 g2
        have hl := LN.out
        have RE : Hid (MtR w0 w Z b s mb R (.returned (.int .i64 ((n : Int) + 1))) (w2.setCell ⟨mb, 0, none⟩ (.slice A' (n + 1) c'))) := Lib.hid (by
          have z := MQ.out.2.2 q0 (by rw [hl]; exact HJ.out)
          refine ⟨by rw [z, hl], by rw [z]; exact ⟨A', c', by rw [List.length_append, hl]; exact m3⟩, P1.out.trans p3⟩)
        have hw : IntKind.i64.wrap ((n : Int) + 1) = (n : Int) + 1 := IntWalk.i64_in _ (by omega)
        clear m3 p3 q2 g2 Q2 E2 F1 MQ HJ M1 P1
        go_wp2
        go_ret
        exact RE.out
end Gc
end Go.Proofs.YthmhehehomieiaaGreat

/- What shown's walk is told: lists, what is met, what was written so far beside the core. -/
namespace Go.Proofs.YthmhehehomieiaaGreat
open Go.RowKit

/-- Two more behind a slice's last. -/
theorem Qu.append2 {w : World} {A : Option Addr} {n c : Nat} {xs : List Int} (h : Qu w A n c xs) (few : n ≤ 1048576) (x y : Int) (ad : Addr) (k : Nat) (hc : w.cell? ad = some (.int .i64 x)) (hc2 : w.cell? (ad.add 1) = some (.int .i64 y)) (ty : TypeId) :
    ∃ A' c' w', (Builtin.append_ #[39, 39] ty #[.slice A n c, .slice (some ad) 2 k]).run Tryz.prog w = .ok (.slice A' (n + 2) c') w' ∧ Qu w' A' (n + 2) c' (xs ++ [x, y]) ∧ Grw A A' w w' := by
  obtain ⟨i0, hi, hz, hs, hby⟩ := info_parts info_int
  have hnews : ∀ j u, [Value.int .i64 x, Value.int .i64 y][j]? = some u → w.cell? (ad.add j) = some u := by
    intro j u hj
    match j, hj with
    | 0, hj => simp at hj; subst hj; simpa [Addr.add] using hc
    | 1, hj => simp at hj; subst hj; exact hc2
  have hone : ∀ u ∈ [Value.int .i64 x, Value.int .i64 y], u.oneCell' = true := by
    intro u hu
    rcases List.mem_cons.1 hu with e | hu
    · rw [e]; rfl
    · rw [List.mem_singleton.1 hu]; rfl
  have hlx : (ints xs).length = n * 1 := by rw [ints, List.length_map, h.len]; omega
  have ea : ints xs ++ [.int .i64 x, .int .i64 y] = ints (xs ++ [x, y]) := by simp [ints]
  rcases h.lies with ⟨rfl, rfl⟩ | ⟨g, off, cs, rfl, hb, hsz, hx⟩
  · have hn : n = 0 := by have := h.le; omega
    subst hn
    obtain rfl : xs = [] := List.eq_nil_of_length_eq_zero h.len
    obtain ⟨v', w', hrun, r1, r2, _⟩ := run_append_own (P := Tryz.prog) w w.heap.size 39 ty 3 i0 (.int .i64 0) 1 8 Tryz.underlying39 hi hz hs hby rfl (by decide) (.slice none 0 0) 0 [] (World.ownsRow_nil w _ 3 1) ad 2 k [.int .i64 x, .int .i64 y] rfl hnews hone (by decide) (by decide) (Nat.le_refl _)
    obtain ⟨g', cap, rfl, hB, q⟩ := Qu.of_own (xs := [x, y]) (by omega) r1
    exact ⟨_, _, w', hrun, q, frm_none r2, fun k hk => by cases hk; exact .inr hB⟩
  · by_cases hr : n + 2 ≤ c
    · have hlt : off + n + 1 < cs.size := by omega
      have hrun := run_append_room_cells (P := Tryz.prog) w 39 ty 3 i0 Tryz.underlying39 hi g off n c ad 2 k [.int .i64 x, .int .i64 y] (by rw [hs]; rfl) hnews hone hr
        (fun j hj => by
          have hj : j < 2 := hj
          rw [hs, hb.cell, Nat.mul_one]
          have : off + n + j < cs.size := by omega
          simp [this]) (fun j hj => hb.frozen _)
      rw [hs, Nat.mul_one] at hrun
      have X1 := (hb.set_ (off + n) (.int .i64 x)).set_ (off + n + 1) (.int .i64 y)
      have F1 : Frm (fun k => blkOf (some ⟨g, off, none⟩) = some k) w ((w.setCell ⟨g, off + n, none⟩ (.int .i64 x)).setCell ⟨g, off + n + 1, none⟩ (.int .i64 y)) :=
        Frm.setCell (S := fun k => blkOf (some ⟨g, off, none⟩) = some k) (Frm.setCell (S := fun k => blkOf (some ⟨g, off, none⟩) = some k) (Frm.refl _ _) (p := ⟨g, off + n, none⟩) (fun _ => rfl) _) (p := ⟨g, off + n + 1, none⟩) (fun _ => rfl) _
      refine ⟨_, _, _, hrun, ⟨by rw [List.length_append, h.len]; rfl, hr, h.max, .inr ⟨g, off, _, rfl, X1, by simpa using hsz, fun i y' hy => ?_⟩⟩, F1, fun k hk => .inl hk⟩
      rw [Array.getElem?_setIfInBounds, Array.getElem?_setIfInBounds, Array.size_setIfInBounds]
      by_cases hin : i < n
      · rw [List.getElem?_append_left (by rw [h.len]; exact hin)] at hy
        rw [if_neg (by omega), if_neg (by omega)]
        exact hx i y' hy
      · rw [List.getElem?_append_right (by rw [h.len]; omega), h.len] at hy
        have lt := (List.getElem?_eq_some_iff.1 hy).1
        have lt : i - n < 2 := by simpa using lt
        by_cases e0 : i = n
        · subst e0
          rw [Nat.sub_self] at hy
          simp at hy
          subst hy
          rw [if_neg (by omega), if_pos (by omega), if_pos (by omega)]
        · obtain rfl : i = n + 1 := by omega
          rw [show n + 1 - n = 1 by omega] at hy
          simp at hy
          subst hy
          rw [if_pos (by omega), if_pos (by omega)]
    · obtain ⟨v', w', hrun, r1, r2⟩ := run_append_arg_grows (P := Tryz.prog) w 39 ty 3 i0 (.int .i64 0) 1 8 Tryz.underlying39 hi hz hs hby rfl (by decide) ⟨g, off, none⟩ n c (ints xs) hlx
        (fun j u hj => by
          rw [Addr.add_lit, hb.cell]
          rw [ints, List.getElem?_map] at hj
          cases e : xs[j]? with
          | none => rw [e] at hj; cases hj
          | some y => rw [e] at hj; cases hj; exact hx j y e)
        ad 2 k [.int .i64 x, .int .i64 y] rfl hnews (by omega) (by unfold maxLen; omega) (by omega)
      rw [ea] at r1
      obtain ⟨g', cap, rfl, hB, q⟩ := Qu.of_own (by omega) r1
      exact ⟨_, _, w', hrun, q, frm_none r2, fun k hk => by cases hk; exact .inr hB⟩

theorem wpList_append_qu2 (w : World) {ops : Array Oper} {rest : List Oper} {o : Oper} {a : Act} {Q : Exit → Act → World → Prop} (hgd : o.guard = none) (s x : Operand)
    (ho : o.op = .call { callee := .builtin .append, args := #[s, x], argTypes := #[39, 39] }) {A : Option Addr} {n c : Nat} {xs : List Int} (h : Qu w A n c xs) (few : n ≤ 1048576) (y z : Int) (ad : Addr) (k : Nat)
    (hs : a.eval s = .slice A n c) (hx : a.eval x = .slice (some ad) 2 k) (hc : w.cell? ad = some (.int .i64 y)) (hc2 : w.cell? (ad.add 1) = some (.int .i64 z))
    (hK : ∀ A' c' w', Qu w' A' (n + 2) c' (xs ++ [y, z]) → Grw A A' w w' → wpList Tryz.prog ops Q rest (a.put o.dst (.slice A' (n + 2) c')) w') : wpList Tryz.prog ops Q (o :: rest) a w := by
  refine wpList_plain hgd fun K hK' => ?_
  obtain ⟨A', c', w', hrun, q, g⟩ := h.append2 few y z ad k hc hc2 o.type
  unfold Oper.wp execOp
  simp only [ho, resolve, invoke, builtin, Sem.run_bind, Sem.run_pure, Result.andThen_ok, List.map_toArray, List.map_cons, List.map_nil, hs, hx, hrun]
  exact hK' _ _ (hK A' c' w' q g)

namespace Gc
section
variable {now cv : Int → Int}
theorem meets_snoc : ∀ (ys met : List Int) (y : Int), meets now met (ys ++ [y]) = ((meet now (meets now met ys).1 y).1, (meets now met ys).2 ++ [(meet now (meets now met ys).1 y).2])
  | [], met, y => rfl
  | x :: ys, met, y => by
    rw [List.cons_append]
    unfold meets
    rw [meets_snoc ys]
    rfl

/-- What is told of an object, so far k of its words. -/
def tl (now cv : Int → Int) (met rs ss : List Int) (k : Nat) : List Int × List Int :=
  ((meets now met (rs.take k)).1, ((rs.length + ss.length : Nat) : Int) :: (rs.length : Int) :: ((meets now met (rs.take k)).2 ++ (ss.take (k - rs.length)).map cv))
variable {met rs ss : List Int} {k : Nat}
theorem tl_zero : tl now cv met rs ss 0 = (met, [((rs.length + ss.length : Nat) : Int), (rs.length : Int)]) := by
  unfold tl
  rw [List.take_zero, Nat.zero_sub, List.take_zero]
  rfl
theorem tl_ref {r : Int} (hr : rs[k]? = some r) : tl now cv met rs ss (k + 1) = ((meet now (tl now cv met rs ss k).1 r).1, (tl now cv met rs ss k).2 ++ [(meet now (tl now cv met rs ss k).1 r).2]) := by
  have lt := (List.getElem?_eq_some_iff.1 hr).1
  have e : rs.take (k + 1) = rs.take k ++ [r] := by rw [List.take_add_one, hr]; rfl
  unfold tl
  rw [e, meets_snoc, show k + 1 - rs.length = 0 by omega, show k - rs.length = 0 by omega, List.take_zero]
  simp
theorem tl_sca {v : Int} (hk : rs.length ≤ k) (hv : ss[k - rs.length]? = some v) : tl now cv met rs ss (k + 1) = ((tl now cv met rs ss k).1, (tl now cv met rs ss k).2 ++ [cv v]) := by
  unfold tl
  rw [List.take_of_length_le hk, List.take_of_length_le (show rs.length ≤ k + 1 by omega), show k + 1 - rs.length = (k - rs.length) + 1 by omega, List.take_add_one, hv]
  simp
theorem tl_end : tl now cv met rs ss (rs.length + ss.length) = toldOb now cv met (rs, ss) := by
  unfold tl toldOb
  rw [List.take_of_length_le (Nat.le_add_right _ _), show rs.length + ss.length - rs.length = ss.length by omega, List.take_of_length_le (Nat.le_refl ss.length)]
end

/-- What is met are few. -/
theorem Met.le {s : Co} {A : Hp} (c : Cyc s A) {met : List Int} (hm : Met A met) : (met.length : Int) ≤ 2 * s.cf.nu + s.cf.ps * s.cf.pz + 1 := by
  have lu := c.sim.laid.used
  have le := c.sim.laid.le
  have pl := c.sim.pl
  have g0 := c.sim.laid.g0
  have n0 := c.sim.laid.n0
  have h2 := hAt_two s.cf.nu s.yn
  have h3 := hAt_two s.cf.nu (!s.yn)
  have pz0 : 0 ≤ s.cf.ps * s.cf.pz := by rw [← pl]; exact Int.mul_nonneg (by omega) (by omega)
  have bd : ∀ p ∈ met, 0 < p ∧ p ≤ 1 + 2 * s.cf.nu + s.cf.ps * s.cf.pz := fun p hp => by
    obtain ⟨h1, _⟩ := hm.2 p hp
    have p0 := c.inv.pos p (by rcases h1 with e | e | e <;> simp [e])
    refine ⟨p0, ?_⟩
    rcases h1 with e | e | e
    · have z := (c.sim.laid.in_iff c.inv (.inr (.inl e))).2 e
      unfold inH at z
      rw [Bool.and_eq_true, decide_eq_true_eq, decide_eq_true_eq] at z
      omega
    · obtain ⟨r, ⟨hr, _⟩, rfl⟩ := (c.sim.laid.old p).1 e
      have w1 := cells_within g0 c.sim.laid.wf hr
      have w2 := words_pos g0 c.sim.laid.wf hr
      rw [pl] at w1
      omega
    · have z := (c.sim.laid.from_iff c.inv (.inr (.inr (.inl e)))).2 e
      unfold inH at z
      rw [Bool.and_eq_true, decide_eq_true_eq, decide_eq_true_eq] at z
      omega
  have hn := nodup_length (l := met) (m := (List.range (1 + 2 * s.cf.nu + s.cf.ps * s.cf.pz).toNat).map fun i : Nat => (i : Int) + 1) hm.1 fun p hp => by
    have := bd p hp
    exact List.mem_map.2 ⟨(p - 1).toNat, List.mem_range.2 (by omega), by omega⟩
  rw [List.length_map, List.length_range] at hn
  omega

/-- A core, what was met in a box beside it, and what was written so far; blocks of X are the caller's. -/
structure Sh (w0 wb w : World) (Z X : Nat → Prop) (b : Nat) (s : Co) (mb : Nat) (A : Option Addr) (c : Nat) (met : List Int) (Ao : Option Addr) (co : Nat) (out : List Int) : Prop where
  mw : Mw w0 w (fun k => Z k ∨ X k ∨ blkOf Ao = some k) b s mb A met.length c met
  qu : Qu w Ao out.length co out
  ap : ∀ k, blkOf Ao = some k → wb.heap.size ≤ k ∧ ¬ Z k ∧ ¬ X k
  kp : Kp Z wb w

section
variable {w0 wb w w' : World} {Z X X' : Nat → Prop} {b mb c co : Nat} {s : Co} {A Ao : Option Addr} {met out : List Int} {H : Hp}

theorem Sh.turn (h : Sh w0 wb w Z X b s mb A c met Ao co out) (f : Below w.heap.size w w') (hx : ∀ k, X' k → X k ∨ (w.heap.size ≤ k ∧ k < w'.heap.size)) : Sh w0 wb w' Z X' b s mb A c met Ao co out :=
  ⟨h.mw.write (T := fun _ => False) (Frm.of_below f) (fun _ _ e => e.elim) fun k hk => by
    rcases hk with e | e | e
    · exact .inl (.inl e)
    · exact (hx k e).imp (fun e => .inr (.inl e)) id
    · exact .inl (.inr (.inr e)), h.qu.keep f, fun k hk => by
      obtain ⟨h1, h2, h3⟩ := h.ap k hk
      refine ⟨h1, h2, fun e => ?_⟩
      rcases hx k e with z | z
      · exact h3 z
      · have := h.qu.lt hk; omega, h.kp.trans (Kp.of_below f)⟩
theorem Sh.keep (h : Sh w0 wb w Z X b s mb A c met Ao co out) (f : Below w.heap.size w w') : Sh w0 wb w' Z X b s mb A c met Ao co out := h.turn f fun _ => .inl

theorem Sh.look {P : Program} {fn : FuncId} {args : Array Value} {R : Ending → Prop} (h : Sh w0 wb w Z X b s mb A c met Ao co out) (q : ∀ S, Cr w b S s → Calls P fn args w fun e w' => R e ∧ CoR w b S s w') :
    Calls P fn args w fun e w' => R e ∧ Sh w0 wb w' Z X b s mb A c met Ao co out ∧ Kp X w w' :=
  (h.mw.look q).mono fun _ _ ⟨r, m, k⟩ => ⟨r, ⟨m, h.qu.kp k fun _ hj => .inr (.inr hj), h.ap, h.kp.trans (k.mono fun _ _ hn hz => hn (.inl hz))⟩, k.mono fun _ _ hn hz => hn (.inr (.inl hz))⟩

theorem Sh.meet (h : Sh w0 wb w Z X b s mb A c met Ao co out) (cy : Cyc s H) {y : Int} (hy : H.ok y) (few : met.length ≤ 1048575) :
    Calls Tryz.prog 96 #[ptr b, .pointer (some ⟨mb, 0, none⟩), .int .i64 y] w fun e w' => e = .returned (.int .i64 (Gc.meet H.now met y).2) ∧ (∃ A' c', Sh w0 wb w' Z X b s mb A' c' (Gc.meet H.now met y).1 Ao co out) ∧ Kp X w w' :=
  (meet14_any h.mw cy hy few).mono fun _ _ ⟨he, ⟨A', c', m⟩, k⟩ => ⟨he, ⟨A', c', m, h.qu.kp k fun _ hj => .inr (.inr hj), h.ap, h.kp.trans (k.mono fun _ _ hn hz => hn (.inl hz))⟩, k.mono fun _ _ hn hz => hn (.inr (.inl hz))⟩

/-- More is written. -/
theorem Sh.app {w1 w2 : World} {Ao' : Option Addr} {co' n : Nat} {ys : List Int} (h : Sh w0 wb w Z X b s mb A c met Ao co out) (f : Below w.heap.size w w1) (q : Qu w2 Ao' n co' (out ++ ys)) (g : Grw Ao Ao' w1 w2) :
    Sh w0 wb w2 Z X b s mb A c met Ao' co' (out ++ ys) ∧ Kp X w w2 := by
  have h1 := h.keep f
  have hn : n = (out ++ ys).length := q.len.symm
  subst hn
  have bs : wb.heap.size ≤ w1.heap.size := h1.kp.size
  refine ⟨⟨h1.mw.write g.frm (fun k _ e => .inr (.inr e)) fun k hk => ?_, q, fun k hk => ?_, h1.kp.trans (g.frm.mono fun k _ e hz => (h1.ap k e).2.1 hz)⟩, (Kp.of_below f).trans (g.frm.mono fun k _ e hz => (h1.ap k e).2.2 hz)⟩
  · rcases hk with e | e | e
    · exact .inl (.inl e)
    · exact .inl (.inr (.inl e))
    · rcases g.at_ k e with z | z
      · exact .inl (.inr (.inr z))
      · exact .inr ⟨z, q.lt e⟩
  · rcases g.at_ k hk with z | z
    · exact h1.ap k z
    · refine ⟨by omega, fun e => ?_, fun e => ?_⟩
      · have := (h1.mw.1.low k (.inl (.inl e))).2; omega
      · have := (h1.mw.1.low k (.inl (.inr (.inl e)))).2; omega

/-- It begins with nothing. -/
theorem sh_start (k : Km w0 w Z b s) : Sh w0 w (((w.alloc (.cells #[] 3)).alloc (.cells #[] 3)).alloc (.cells #[.slice (some ⟨w.heap.size + 1, 0, none⟩) 0 0] 39)) Z noZ b s (w.heap.size + 2) (some ⟨w.heap.size + 1, 0, none⟩) 0 [] (some ⟨w.heap.size, 0, none⟩) 0 [] := by
  have f1 := (Below.refl _ w).alloc (Nat.le_refl _) (.cells #[] 3)
  have f2 := (Below.refl _ (w.alloc (.cells #[] 3))).alloc (Nat.le_refl _) (.cells #[] 3)
  have f3 := (Below.refl _ ((w.alloc (.cells #[] 3)).alloc (.cells #[] 3))).alloc (Nat.le_refl _) (.cells #[.slice (some ⟨w.heap.size + 1, 0, none⟩) 0 0] 39)
  have f12 := below_trans f1 f2
  have q1 := Qu.fresh w
  have q2 := Qu.fresh (w.alloc (.cells #[] 3))
  have x3 := Blk.new ((w.alloc (.cells #[] 3)).alloc (.cells #[] 3)) #[.slice (some ⟨w.heap.size + 1, 0, none⟩) 0 0] 39
  have e1 : (w.alloc (.cells #[] 3)).heap.size = w.heap.size + 1 := by simp
  have e2 : ((w.alloc (.cells #[] 3)).alloc (.cells #[] 3)).heap.size = w.heap.size + 2 := by simp
  rw [e1] at q2
  rw [e2] at x3
  have f := below_trans f12 f3
  have nz : ∀ j, w.heap.size ≤ j → ¬ Z j := fun j hj hz => by have := (k.low j hz).2; omega
  have bo : ∀ u j, blkOf (some ⟨u, 0, none⟩) = some j ↔ u = j := fun u j => by simp [blkOf]
  refine ⟨⟨k.grow f fun j hj => ?_, q2.keep f3, x3, ?_, ?_, fun j hj => ?_⟩, (q1.keep f2).keep f3, fun j hj => ?_, Kp.of_below f⟩
  · have e3 : (((w.alloc (.cells #[] 3)).alloc (.cells #[] 3)).alloc (.cells #[.slice (some ⟨w.heap.size + 1, 0, none⟩) 0 0] 39)).heap.size = w.heap.size + 3 := by simp
    rcases hj with (e | e | e) | e | e
    · exact .inl e
    · exact e.elim
    · have := (bo _ _).1 e; exact .inr (by omega)
    · exact .inr (by omega)
    · have := (bo _ _).1 e; exact .inr (by omega)
  · rintro (e | e | e)
    · exact nz _ (by omega) e
    · exact e
    · have := (bo _ _).1 e; omega
  · intro e; have := (bo _ _).1 e; omega
  · have := (bo _ _).1 hj
    rintro (e | e | e)
    · exact nz _ (by omega) e
    · exact e
    · have := (bo _ _).1 e; omega
  · have := (bo _ _).1 hj
    exact ⟨by omega, nz _ (by omega), fun e => e⟩
end
end Gc
end Go.Proofs.YthmhehehomieiaaGreat

/- The walk of shown: what stands in a heap, as numbers. -/
namespace Go.Proofs.YthmhehehomieiaaGreat
namespace Gc
open Go.RowKit

abbrev cvI : Int → Int := IntKind.i64.wrap

theorem meet_at {now : Int → Int} {met : List Int} {y p : Int} {i : Nat} (h : met[i]? = some p) : (meet now met y).1[i]? = some p := by
  unfold meet
  split
  · exact h
  · split
    · exact h
    · show (met ++ [now y])[i]? = some p
      rw [List.getElem?_append_left (List.getElem?_eq_some_iff.1 h).1, h]
theorem meets_len {now : Int → Int} : ∀ (ys met : List Int), (meets now met ys).2.length = ys.length
  | [], _ => rfl
  | y :: ys, met => by
    unfold meets
    rw [List.length_cons, List.length_cons, meets_len ys]
theorem told_done {now cv : Int → Int} {dat : Int → List Int × List Int} {met out : List Int} : ∀ (n i : Nat), met[i]? = none → told now cv dat n i met out = out
  | 0, _, _ => rfl
  | n + 1, i, h => by unfold told; rw [h]
theorem told_step {now cv : Int → Int} {dat : Int → List Int × List Int} {met out : List Int} {n i : Nat} {q : Int} (h : met[i]? = some q) : told now cv dat (n + 1) i met out = told now cv dat n (i + 1) (toldOb now cv met (dat q)).1 (out ++ (toldOb now cv met (dat q)).2) := by
  rw [told, h]

theorem c13_of {w : World} {b : Nat} {S : Nat → Prop} {s : Co} (hC : Cr w b S s) : w.cell? ⟨b, 13, none⟩ = some (arP s.pt.a) := by
  obtain ⟨P, own, h0, rfl, rfl⟩ := hC
  have : s.pt.a = P.a := by rw [h0.pts]; rfl
  rw [this]; exact h0.cell 13
theorem head13 {w : World} {b : Nat} {S : Nat → Prop} {s : Co} (hC : Cr w b S s) {A : Hp} (c : Cyc s A) {q : Int} {o : Ob} (ho : A.ob q = some o) :
    Calls Tryz.prog 54 #[arP s.pt.a, .int .i64 q] w fun e w' => e = .returned (.tuple #[hdV (o.n : Nat) o.rs.length o.age o.par o.grey o.noted (decide (q ∈ A.O)), .int .i64 0]) ∧ CoR w b S s w' := by
  have at_ := c.sim.laid.lies.at_ q o ho
  obtain ⟨a, c13, H⟩ := head_co hC q _ _ _ _ _ _ _ (c.inv.ob_pos ho) at_.head at_.good
  have e := c13.symm.trans (c13_of hC)
  have e : arP a = arP s.pt.a := by simpa using e
  rw [← e]
  exact H
theorem field13 {w : World} {b : Nat} {S : Nat → Prop} {s : Co} (hC : Cr w b S s) {A : Hp} (c : Cyc s A) {q : Int} {o : Ob} (ho : A.ob q = some o) {k : Nat} {x : Int} (hx : (o.rs ++ o.ss)[k]? = some x) :
    Calls Tryz.prog 91 #[arP s.pt.a, .int .i64 q, .int .i64 k] w fun e w' => e = .returned (.tuple #[.int .u64 x, .int .i64 0]) ∧ CoR w b S s w' := by
  have at_ := c.sim.laid.lies.at_ q o ho
  have gd := (goodB_iff ..).1 at_.good
  have q0 := c.inv.ob_pos ho
  have lt := (List.getElem?_eq_some_iff.1 hx).1
  rw [List.length_append] at lt
  have en : o.n = o.rs.length + o.ss.length := rfl
  obtain ⟨a, c13, H⟩ := field_co hC q k x (by omega) (by omega) (by omega) (by
    rw [show (q + (2 + (k : Int))).toNat = q.toNat + 2 + k by omega]
    exact at_.body k x hx)
  have e := c13.symm.trans (c13_of hC)
  have e : arP a = arP s.pt.a := by simpa using e
  rw [← e]
  exact H

/-- What lies beside the core, but for where what was met lies. -/
def Ps (w0 wb w : World) (Z X : Nat → Prop) (b : Nat) (s : Co) (mb : Nat) (met : List Int) (Ao : Option Addr) (co : Nat) (out : List Int) : Prop := ∃ A c, Sh w0 wb w Z X b s mb A c met Ao co out

section
variable {w0 wb w w' : World} {Z X X' : Nat → Prop} {b mb c co : Nat} {s : Co} {A Ao : Option Addr} {met out : List Int} {H : Hp}
theorem Sh.own {T : Nat → Prop} (h : Sh w0 wb w Z X b s mb A c met Ao co out) (f : Frm T w w') (ht : ∀ k, T k → X k ∧ ¬ Z k) : Sh w0 wb w' Z X b s mb A c met Ao co out :=
  ⟨h.mw.write f (fun k _ e => .inr (.inl (ht k e).1)) fun _ hk => .inl hk, h.qu.frm f fun k hk e => (h.ap k hk).2.2 (ht k e).1, h.ap, h.kp.trans (f.mono fun k _ e hz => (ht k e).2 hz)⟩
theorem Sh.c13 (h : Sh w0 wb w Z X b s mb A c met Ao co out) : w.cell? ⟨b, 13, none⟩ = some (arP s.pt.a) := by
  obtain ⟨S, hC⟩ := h.mw.1.cr
  exact c13_of hC
theorem Sh.cmb (h : Sh w0 wb w Z X b s mb A c met Ao co out) : w.cell? ⟨mb, 0, none⟩ = some (.slice A met.length c) := h.mw.2.2.1.cell 0
theorem Sh.cmet (h : Sh w0 wb w Z X b s mb A c met Ao co out) {g off i : Nat} {q : Int} (e : A = some ⟨g, off, none⟩) (hq : met[i]? = some q) : w.cell? ⟨g, off + i, none⟩ = some (.int .i64 q) := by
  obtain ⟨g', o', e', _, hc, _⟩ := h.mw.2.1.at_ (by have := (List.getElem?_eq_some_iff.1 hq).1; omega)
  rw [e] at e'
  cases e'
  exact hc i q hq
theorem Sh.at_ (h : Sh w0 wb w Z X b s mb A c met Ao co out) (hn : 0 < met.length) : ∃ g off, A = some ⟨g, off, none⟩ := by
  obtain ⟨g, o, e, _⟩ := h.mw.2.1.at_ hn
  exact ⟨g, o, e⟩

theorem Ps.meet (h : Ps w0 wb w Z X b s mb met Ao co out) (cy : Cyc s H) {y : Int} (hy : H.ok y) (few : met.length ≤ 1048575) :
    Calls Tryz.prog 96 #[ptr b, .pointer (some ⟨mb, 0, none⟩), .int .i64 y] w fun e w' => ∃ r, e = .returned (.int .i64 r) ∧ r = (Gc.meet H.now met y).2 ∧ Ps w0 wb w' Z X b s mb (Gc.meet H.now met y).1 Ao co out ∧ Kp X w w' := by
  obtain ⟨A, c, h⟩ := h
  exact (h.meet cy hy few).mono fun _ _ ⟨he, h1, h2⟩ => ⟨_, he, rfl, h1, h2⟩
theorem Ps.app {w1 w2 : World} {Ao' : Option Addr} {co' n : Nat} {ys : List Int} (h : Ps w0 wb w Z X b s mb met Ao co out) (f : Below w.heap.size w w1) (q : Qu w2 Ao' n co' (out ++ ys)) (g : Grw Ao Ao' w1 w2) :
    Ps w0 wb w2 Z X b s mb met Ao' co' (out ++ ys) ∧ Kp X w w2 := by
  obtain ⟨A, c, h⟩ := h
  obtain ⟨h1, h2⟩ := h.app f q g
  exact ⟨⟨A, c, h1⟩, h2⟩
theorem Ps.turn (h : Ps w0 wb w Z X b s mb met Ao co out) (f : Below w.heap.size w w') (hx : ∀ k, X' k → X k ∨ (w.heap.size ≤ k ∧ k < w'.heap.size)) : Ps w0 wb w' Z X' b s mb met Ao co out := by
  obtain ⟨A, c, h⟩ := h
  exact ⟨A, c, h.turn f hx⟩
theorem Ps.qu (h : Ps w0 wb w Z X b s mb met Ao co out) : Qu w Ao out.length co out := by
  obtain ⟨A, c, h⟩ := h
  exact h.qu
theorem Ps.cmb (h : Ps w0 wb w Z X b s mb met Ao co out) : ∃ A c, w.cell? ⟨mb, 0, none⟩ = some (.slice A met.length c) := by
  obtain ⟨A, c, h⟩ := h
  exact ⟨A, c, h.cmb⟩

abbrev hd7 (z u g y : Int) (f1 f2 f3 : Bool) : Array Value := #[.int .i64 z, .int .i64 u, .int .i64 g, .int .i64 y, .bool f1, .bool f2, .bool f3]
theorem Blk.set7 {w1 : World} {k : Nat} {t : TypeId} {u0 u1 u2 u3 u4 u5 u6 : Value} (h : Blk w1 k #[u0, u1, u2, u3, u4, u5, u6] t) (v0 v1 v2 v3 v4 v5 v6 : Value) :
    Blk (((((((w1.setCell ⟨k, 0, none⟩ v0).setCell ⟨k, 1, none⟩ v1).setCell ⟨k, 2, none⟩ v2).setCell ⟨k, 3, none⟩ v3).setCell ⟨k, 4, none⟩ v4).setCell ⟨k, 5, none⟩ v5).setCell ⟨k, 6, none⟩ v6) k #[v0, v1, v2, v3, v4, v5, v6] t := by
  have e := ((((((h.set_ 0 v0).set_ 1 v1).set_ 2 v2).set_ 3 v3).set_ 4 v4).set_ 5 v5).set_ 6 v6
  simpa only [List.setIfInBounds_toArray, List.set_cons_zero, List.set_cons_succ] using e
theorem Frm.set7 {T : Nat → Prop} {w w1 : World} (f : Frm T w w1) (k : Nat) (hk : T k) (v0 v1 v2 v3 v4 v5 v6 : Value) :
    Frm T w (((((((w1.setCell ⟨k, 0, none⟩ v0).setCell ⟨k, 1, none⟩ v1).setCell ⟨k, 2, none⟩ v2).setCell ⟨k, 3, none⟩ v3).setCell ⟨k, 4, none⟩ v4).setCell ⟨k, 5, none⟩ v5).setCell ⟨k, 6, none⟩ v6) :=
  ((((((f.setCell (p := ⟨k, 0, none⟩) (fun _ => hk) _).setCell (p := ⟨k, 1, none⟩) (fun _ => hk) _).setCell (p := ⟨k, 2, none⟩) (fun _ => hk) _).setCell (p := ⟨k, 3, none⟩) (fun _ => hk) _).setCell (p := ⟨k, 4, none⟩) (fun _ => hk) _).setCell (p := ⟨k, 5, none⟩) (fun _ => hk) _).setCell (p := ⟨k, 6, none⟩) (fun _ => hk) _

/-- A head is read, and put into a box that is made in the region. -/
def HdG (w0 wb : World) (Z : Nat → Prop) (b : Nat) (s : Co) (mb : Nat) (A : Option Addr) (c : Nat) (met : List Int) (Ao : Option Addr) (co : Nat) (out : List Int) (hv : Array Value) (m : Made) (w' : World) : Prop := match m 12 with
  | none => Sh w0 wb w' Z noZ b s mb A c met Ao co out ∧ m 13 = none
  | some v => ∃ k : Nat, v = .pointer (some ⟨k, 0, none⟩) ∧ ¬ Z k ∧ Sh w0 wb w' Z (fun j => j = k) b s mb A c met Ao co out ∧ Blk w' k (match m 13 with | none => hd7 0 0 0 0 false false false | some _ => hv) 93

variable {hv : Array Value} {m : Made}
theorem HdG.pure (h : HdG w0 wb Z b s mb A c met Ao co out hv m w') (i : Nat) (v : Value) (hi : i ≠ 12) (hj : i ≠ 13) : HdG w0 wb Z b s mb A c met Ao co out hv (m.upd i v) w' := by
  unfold HdG at h ⊢
  rwa [show m.upd i v 12 = m 12 from if_neg (Ne.symm hi), show m.upd i v 13 = m 13 from if_neg (Ne.symm hj)]
theorem HdG.sh (h : HdG w0 wb Z b s mb A c met Ao co out hv m w') : ∃ X, Sh w0 wb w' Z X b s mb A c met Ao co out := by
  unfold HdG at h
  cases e : m 12 with
  | none => rw [e] at h; exact ⟨_, h.1⟩
  | some v =>
    rw [e] at h
    obtain ⟨k, _, _, h1, _⟩ := h
    exact ⟨_, h1⟩
theorem HdG.look {P : Program} {fn : FuncId} {args : Array Value} {R : Ending → Prop} (h : HdG w0 wb Z b s mb A c met Ao co out hv m w') (q : ∀ S, Cr w' b S s → Calls P fn args w' fun e w2 => R e ∧ CoR w' b S s w2) :
    Calls P fn args w' fun e w2 => R e ∧ HdG w0 wb Z b s mb A c met Ao co out hv m w2 := by
  unfold HdG at h ⊢
  cases e : m 12 with
  | none =>
    rw [e] at h
    exact (h.1.look q).mono fun _ _ ⟨r, h1, _⟩ => ⟨r, h1, h.2⟩
  | some v =>
    rw [e] at h
    obtain ⟨k, e1, e2, h1, h2⟩ := h
    exact (h1.look q).mono fun _ _ ⟨r, h3, kp⟩ => ⟨r, k, e1, e2, h3, h2.kp kp rfl⟩
theorem HdG.made (h : HdG w0 wb Z b s mb A c met Ao co out hv m w') (h6 : m 12 = none) : HdG w0 wb Z b s mb A c met Ao co out hv (m.upd 12 (.pointer (some ⟨w'.heap.size, 0, none⟩))) (w'.alloc (.cells (hd7 0 0 0 0 false false false) 93)) := by
  unfold HdG at h ⊢
  rw [h6] at h
  rw [show m.upd 12 (.pointer (some ⟨w'.heap.size, 0, none⟩)) 12 = some (.pointer (some ⟨w'.heap.size, 0, none⟩)) from if_pos rfl, show m.upd 12 (.pointer (some ⟨w'.heap.size, 0, none⟩)) 13 = none from (if_neg (by decide)).trans h.2]
  refine ⟨w'.heap.size, rfl, fun e => ?_, h.1.turn ((Below.refl _ w').alloc (Nat.le_refl _) _) fun k hk => .inr ⟨by omega, by subst hk; simp⟩, Blk.new w' _ _⟩
  have := (h.1.mw.1.low _ (.inl (.inl e))).2
  omega
theorem HdG.six {k : Nat} (h : HdG w0 wb Z b s mb A c met Ao co out hv m w') (h6 : m 12 = some (.pointer (some ⟨k, 0, none⟩))) (h7 : m 13 = none) : ¬ Z k ∧ Sh w0 wb w' Z (fun j => j = k) b s mb A c met Ao co out ∧ Blk w' k (hd7 0 0 0 0 false false false) 93 := by
  unfold HdG at h
  rw [h6, h7] at h
  obtain ⟨k', e, h0, h1, h2⟩ := h
  cases e
  exact ⟨h0, h1, h2⟩
theorem HdG.done {k : Nat} {u : Value} (h : HdG w0 wb Z b s mb A c met Ao co out hv m w') (h6 : m 12 = some (.pointer (some ⟨k, 0, none⟩))) (h7 : m 13 = some u) : Sh w0 wb w' Z (fun j => j = k) b s mb A c met Ao co out ∧ Blk w' k hv 93 := by
  unfold HdG at h
  rw [h6, h7] at h
  obtain ⟨k', e, h0, h1, h2⟩ := h
  cases e
  exact ⟨h1, h2⟩
theorem HdG.stored {k : Nat} {u : Value} {v0 v1 v2 v3 v4 v5 v6 : Value} (h : HdG w0 wb Z b s mb A c met Ao co out #[v0, v1, v2, v3, v4, v5, v6] m w') (h6 : m 12 = some (.pointer (some ⟨k, 0, none⟩))) (h7 : m 13 = none) :
    HdG w0 wb Z b s mb A c met Ao co out #[v0, v1, v2, v3, v4, v5, v6] (m.upd 13 u) (((((((w'.setCell ⟨k, 0, none⟩ v0).setCell ⟨k, 1, none⟩ v1).setCell ⟨k, 2, none⟩ v2).setCell ⟨k, 3, none⟩ v3).setCell ⟨k, 4, none⟩ v4).setCell ⟨k, 5, none⟩ v5).setCell ⟨k, 6, none⟩ v6) := by
  obtain ⟨h0, h1, h2⟩ := h.six h6 h7
  unfold HdG
  rw [show m.upd 13 u 12 = some (.pointer (some ⟨k, 0, none⟩)) from (if_neg (by decide)).trans h6, show m.upd 13 u 13 = some u from if_pos rfl]
  exact ⟨k, rfl, h0, h1.own (Frm.set7 (Frm.refl (fun j => j = k) w') k rfl _ _ _ _ _ _ _) fun j e => ⟨e, e ▸ h0⟩, Blk.set7 h2 _ _ _ _ _ _ _⟩
end

def HdW (b a gq off n c iq : Nat) (p z u g y : Int) (f1 f2 f3 : Bool) : Nat → Value → Prop
  | 0 => fun v => v = ptr b
  | 1 => fun v => v = ptr b
  | 2 => fun v => v = .pointer (some ⟨b, 13, none⟩)
  | 3 => fun v => v = arP a
  | 4 => fun v => v = .slice (some ⟨gq, off, none⟩) n c
  | 5 => fun v => v = .int .i64 iq
  | 6 => fun v => v = .pointer (some ⟨gq, off + iq, none⟩)
  | 7 => fun v => v = .int .i64 p
  | 8 => fun v => v = .tuple #[hdV z u g y f1 f2 f3, .int .i64 0]
  | 9 => fun v => v = .tuple #[hdV z u g y f1 f2 f3, .int .i64 0]
  | 10 => fun v => v = hdV z u g y f1 f2 f3
  | 11 => fun v => v = .int .i64 0
  | 12 => fun v => ∃ k : Nat, v = .pointer (some ⟨k, 0, none⟩)
  | 13 => fun v => v = undef
  | _ => fun _ => True
theorem HdW_some (b a gq off n c iq : Nat) (p z u g y : Int) (f1 f2 f3 : Bool) : ∀ i, ∃ v, HdW b a gq off n c iq p z u g y f1 f2 f3 i v
  | 0 => ⟨_, rfl⟩
  | 1 => ⟨_, rfl⟩
  | 2 => ⟨_, rfl⟩
  | 3 => ⟨_, rfl⟩
  | 4 => ⟨_, rfl⟩
  | 5 => ⟨_, rfl⟩
  | 6 => ⟨_, rfl⟩
  | 7 => ⟨_, rfl⟩
  | 8 => ⟨_, rfl⟩
  | 9 => ⟨_, rfl⟩
  | 10 => ⟨_, rfl⟩
  | 11 => ⟨_, rfl⟩
  | 12 => ⟨_, 0, rfl⟩
  | 13 => ⟨_, rfl⟩
  | _ + 14 => ⟨undef, trivial⟩
def FdW (b a gq off n c iq : Nat) (p k x : Int) : Nat → Value → Prop
  | 0 => fun v => v = ptr b
  | 1 => fun v => v = ptr b
  | 2 => fun v => v = .pointer (some ⟨b, 13, none⟩)
  | 3 => fun v => v = arP a
  | 4 => fun v => v = .slice (some ⟨gq, off, none⟩) n c
  | 5 => fun v => v = .int .i64 iq
  | 6 => fun v => v = .pointer (some ⟨gq, off + iq, none⟩)
  | 7 => fun v => v = .int .i64 p
  | 8 => fun v => v = .int .i64 k
  | 9 => fun v => v = .tuple #[.int .u64 x, .int .i64 0]
  | 10 => fun v => v = .tuple #[.int .u64 x, .int .i64 0]
  | 11 => fun v => v = .int .u64 x
  | 12 => fun v => v = .int .i64 0
  | 13 => fun v => v = .int .u64 x
  | _ => fun _ => True
theorem FdW_some (b a gq off n c iq : Nat) (p k x : Int) : ∀ i, ∃ v, FdW b a gq off n c iq p k x i v
  | 0 => ⟨_, rfl⟩
  | 1 => ⟨_, rfl⟩
  | 2 => ⟨_, rfl⟩
  | 3 => ⟨_, rfl⟩
  | 4 => ⟨_, rfl⟩
  | 5 => ⟨_, rfl⟩
  | 6 => ⟨_, rfl⟩
  | 7 => ⟨_, rfl⟩
  | 8 => ⟨_, rfl⟩
  | 9 => ⟨_, rfl⟩
  | 10 => ⟨_, rfl⟩
  | 11 => ⟨_, rfl⟩
  | 12 => ⟨_, rfl⟩
  | 13 => ⟨_, rfl⟩
  | _ + 14 => ⟨undef, trivial⟩

attribute [local go_sem] madeUpon

/-- What is shown of a heap. -/
def shR (s : Co) (H : Hp) : List Int := shown H.now cvI H.dat 938 s.hs

set_option maxHeartbeats 8000000 in
set_option maxRecDepth 100000 in
theorem shown14_any {w0 w : World} {Z : Nat → Prop} {b : Nat} {s : Co} {H : Hp} (k : Km w0 w Z b s) (cy : Cyc s H) (hM : 2 * s.cf.nu + s.cf.ps * s.cf.pz + 1 ≤ 938) :
    Calls Tryz.prog 48 #[ptr b] w fun e w' => ∃ A c n, e = .returned (.slice A n c) ∧ Qu w' A n c (shR s H) ∧ n ≤ 1048576 ∧ Km w0 w' (fun k => Z k ∨ blkOf A = some k) b s ∧ Kp Z w w' := by
  have S0 := sh_start k
  obtain ⟨S, hC⟩ := S0.mw.1.cr
  have hN := hC.few
  obtain ⟨c18, HA⟩ := tall_co hC
  have HA := Lib.hid HA
  have S0 := Lib.hid S0
  have CY := Lib.hid cy
  have HM := Lib.hid hM
  have HS := Lib.hid cy.sim.hs
  obtain ⟨R, hR⟩ : ∃ R, shR s H = R := ⟨_, rfl⟩
  rw [hR]
  have HR := Lib.hid hR
  obtain ⟨N, hN2⟩ : ∃ N, s.hs.length = N := ⟨_, rfl⟩
  rw [hN2] at hN HA
  have HL := Lib.hid hN2
  clear k cy hM hC S hR hN2
  go_enter Tryz.func48, Tryz.ntmps48
  go_wp2_with fail
  refine HA.out.mono ?_
  rintro e w4 ⟨Aa, ca, rfl, qa, ba, na⟩
  have P4 : Hid (Ps w0 w w4 Z (fun k => blkOf Aa = some k) b s (w.heap.size + 2) [] (some ⟨w.heap.size, 0, none⟩) 0 []) := Lib.hid ⟨_, _, S0.out.turn ba fun k hk => .inr ⟨na k hk, qa.lt hk⟩⟩
  have QA := Lib.hid qa
  clear qa ba na S0 HA c18
  generalize w.heap.size + 2 = mb at *
  go_wp2_with fail
  go_loopw [3, 6] (fun s3 s6 wr => ∃ (i co : Nat) (met out : List Int) (Ao : Option Addr), i ≤ N ∧ s6 = .int .i64 i ∧ s3 = .slice Ao out.length co ∧ Hid (Ps w0 w wr Z (fun k => blkOf Aa = some k) b s mb met Ao co out) ∧ Hid (meets H.now [] (s.hs.take i) = (met, out) ∧ Met H met) ∧ Hid (Qu wr Aa N ca s.hs)) (fun _ s6 _ => N - (intOf s6).toNat)
  case atStart => exact ⟨0, 0, [], [], _, Nat.zero_le _, rfl, rfl, P4, Lib.hid ⟨rfl, List.nodup_nil, fun _ h => (by cases h)⟩, QA⟩
  case round =>
    clear P4 QA
    obtain ⟨i, co, met, out, Ao, hi, rfl, rfl, PI, EI, QA⟩ := hrel
    by_cases hlt : i < N
    · have hy : s.hs[i]? = some (s.hs[i]'(by have := HL.out; omega)) := List.getElem?_eq_getElem _
      generalize s.hs[i]'(by have := HL.out; omega) = y at hy
      obtain ⟨g1, o1, rfl, _, d1, _⟩ := QA.out.at_ (by omega)
      have x1 := d1 i y hy
      have j0 : (0 : Int) ≤ (i : Int) := by omega
      have j1 : (i : Int) < (N : Int) := by omega
      have ok := Lib.hid (show H.ok y from CY.out.inv.hs y (by rw [HS.out]; exact List.mem_of_getElem? hy))
      have HE := Lib.hid (PI.out.meet CY.out ok.out (by have := EI.out.2.le CY.out; have := HM.out; omega))
      have lo : out.length ≤ 64 := by
        have := congrArg (fun z => z.2.length) EI.out.1
        have : (meets H.now [] (s.hs.take i)).2.length = out.length := this
        rw [meets_len, List.length_take] at this
        omega
      have EN := Lib.hid (show meets H.now [] (s.hs.take (i + 1)) = ((meet H.now met y).1, out ++ [(meet H.now met y).2]) ∧ Met H (meet H.now met y).1 from by
        have e : s.hs.take (i + 1) = s.hs.take i ++ [y] := by rw [List.take_add_one, hy]; rfl
        refine ⟨?_, meet_met CY.out.inv EI.out.2 ok.out⟩
        rw [e, meets_snoc, EI.out.1])
      clear d1 hy ok PI EI
      go_wp2_with fail
      refine HE.out.mono ?_
      rintro e w5 ⟨r, rfl, hr, p5, kp5⟩
      rw [← hr] at EN
      have f1 := (Below.refl _ w5).alloc (Nat.le_refl _) (.cells #[.int .i64 r] 3)
      have Q2 := Lib.hid (p5.qu.keep f1)
      have E2 := Lib.hid (show (w5.alloc (.cells #[.int .i64 r] 3)).cell? ⟨w5.heap.size, 0, none⟩ = some (.int .i64 r) from (Blk.new w5 #[.int .i64 r] 3).cell 0)
      have P5 := Lib.hid p5
      have F1 := Lib.hid f1
      have QA := Lib.hid (QA.out.kp kp5 fun _ e => e)
      generalize (meet H.now met y).1 = met2 at *
      clear p5 kp5 f1 HE x1 hr
      go_wp2_with (first
        | (at_builtin; (refine wpList_append_qu _ rfl _ _ rfl Q2.out (by omega) r ⟨w5.heap.size, 0, none⟩ 1 rfl rfl E2.out ?_))
        | fail)
      intro A' c' w6 q6 g6
      obtain ⟨p6, k6⟩ := P5.out.app F1.out q6 g6
      have P6 := Lib.hid p6
      have QA := Lib.hid (QA.out.kp k6 fun _ e => e)
      clear p6 k6 q6 g6 Q2 E2 P5 F1
      go_wp2
      go_roundw
      case rel => exact ⟨i + 1, c', met2, out ++ [r], A', by omega, by go_num, by simp, P6, EN, QA⟩
      case measure => simp [intOf]; omega
    · obtain rfl : i = N := by omega
      have E0 := Lib.hid (show told H.now cvI H.dat (938 - 0) 0 met out = R ∧ Met H met ∧ out.length ≤ 64 + 66 * 0 from by
        have e := EI.out.1
        rw [List.take_of_length_le (by have := HL.out; omega)] at e
        have l := congrArg (fun z => z.2.length) e
        have l : (meets H.now [] s.hs).2.length = out.length := l
        rw [meets_len, HL.out] at l
        refine ⟨?_, EI.out.2, by omega⟩
        have r := HR.out
        unfold shR shown at r
        rw [e] at r
        exact r)
      have P0 : Hid (Ps w0 w wr Z noZ b s mb met Ao co out) := Lib.hid (PI.out.turn (Below.refl _ _) fun _ e => e.elim)
      clear PI EI QA
      generalize wr = wq at *
      go_wp2_with fail
      go_loopw [3, 7] (fun s3 s7 wr => ∃ (i co : Nat) (met out : List Int) (Ao : Option Addr), i ≤ 938 ∧ s7 = .int .i64 i ∧ s3 = .slice Ao out.length co ∧ Hid (Ps w0 w wr Z noZ b s mb met Ao co out) ∧ Hid (told H.now cvI H.dat (938 - i) i met out = R ∧ Met H met ∧ out.length ≤ 64 + 66 * i)) (fun _ s7 _ => 938 - (intOf s7).toNat)
      case atStart => exact ⟨0, co, met, out, Ao, by omega, rfl, rfl, P0, E0⟩
      case round =>
        clear P0 E0
        obtain ⟨i, co, met, out, Ao, hi, rfl, rfl, PI, EI⟩ := hrel
        have n938 : met.length ≤ 938 := by have := EI.out.2.1.le CY.out; have := HM.out; omega
        obtain ⟨A, c, hsh⟩ := PI.out
        have mc := hsh.cmb
        have SH := Lib.hid hsh
        clear PI hsh
        by_cases hlt : i < met.length
        · have h1 : (i : Int) < (met.length : Int) := by omega
          have h0 : (0 : Int) ≤ (i : Int) := by omega
          have hq : met[i]? = some (met[i]'hlt) := List.getElem?_eq_getElem _
          generalize met[i]'hlt = q at hq
          obtain ⟨gq, off, rfl⟩ := SH.out.at_ (by omega)
          have hob : ∃ o, H.ob q = some o := by
            obtain ⟨z, _⟩ := EI.out.2.1.2 q (List.mem_of_getElem? hq)
            exact (CY.out.inv.dom q).2 (by rcases z with e | e | e <;> simp [e])
          obtain ⟨o, ho⟩ := hob
          have gd := (goodB_iff ..).1 (CY.out.sim.laid.lies.at_ q o ho).good
          have en : o.n = o.rs.length + o.ss.length := rfl
          have HO := Lib.hid ho
          have HQ := Lib.hid hq
          have ED := Lib.hid (show H.dat q = (o.rs, o.ss) from by unfold Hp.dat; rw [ho])
          have HD := Lib.hid (fun w' S (hC : Cr w' b S s) => head13 hC CY.out ho)
          obtain ⟨K, hK⟩ : ∃ K, o.n = K := ⟨_, rfl⟩
          obtain ⟨U, hU⟩ : ∃ U, o.rs.length = U := ⟨_, rfl⟩
          have HK := Lib.hid (show K = U + o.ss.length ∧ K ≤ 64 from ⟨by omega, by omega⟩)
          have HU := Lib.hid hU
          rw [hK, hU] at HD
          have lo := EI.out.2.2
          have hK64 := HK.out.2
          clear ho hq gd en hK hU
          generalize decide (q ∈ H.O) = f3 at *
          generalize o.age = ag at *
          generalize o.par = pr at *
          generalize o.grey = f1 at *
          generalize o.noted = f2 at *
          go_wp2_with fail
          clear mc
          refine region_made_tailG (HdG w0 w Z b s mb (some ⟨gq, off, none⟩) c met Ao co out (hd7 K U ag pr f1 f2 f3)) (HdW b s.pt.a gq off met.length c i q K U ag pr f1 f2 f3) 14 (by kernel_rfl) (by kernel_rfl) (HdW_some _ _ _ _ _ _ _ _ _ _ _ _ _ _ _) ⟨SH.out.keep (below_drew _), rfl⟩ ?_
          simp only [List.take_succ_cons, List.take_zero, List.drop_succ_cons, List.drop_zero]
          refine wpMadeG_step ?_ ?_
          · refine .inl ⟨by rfl, ?_⟩
            intro m' w' hg hag
            go_simp
            exact ⟨rfl, hg.pure _ _ (by decide) (by decide)⟩
          intro K hK
          rintro _ rfl
          go_simp
          refine hK _ _ ?_
          clear hK K
          refine wpMadeG_step ?_ ?_
          · refine .inl ⟨by rfl, ?_⟩
            intro m' w' hg hag
            go_simp
            exact ⟨rfl, hg.pure _ _ (by decide) (by decide)⟩
          intro K hK
          rintro _ rfl
          go_simp
          refine hK _ _ ?_
          clear hK K
          refine wpMadeG_step ?_ ?_
          · refine .inl ⟨by rfl, ?_⟩
            intro m' w' hg hag
            go_simp
            exact ⟨rfl, hg.pure _ _ (by decide) (by decide)⟩
          intro K hK
          rintro _ rfl
          go_simp
          refine hK _ _ ?_
          clear hK K
          refine wpMadeG_step ?_ ?_
          · refine .inl ⟨by rfl, ?_⟩
            intro m' w' hg hag
            have q1 := (Exists.choose_spec hg.sh).c13
            go_simp
            exact ⟨rfl, hg.pure _ _ (by decide) (by decide)⟩
          intro K hK
          rintro _ rfl
          go_simp
          refine hK _ _ ?_
          clear hK K
          refine wpMadeG_step ?_ ?_
          · refine .inl ⟨by rfl, ?_⟩
            intro m' w' hg hag
            have q1 := (Exists.choose_spec hg.sh).cmb
            go_simp
            exact ⟨rfl, hg.pure _ _ (by decide) (by decide)⟩
          intro K hK
          rintro _ rfl
          go_simp
          refine hK _ _ ?_
          clear hK K
          refine wpMadeG_step ?_ ?_
          · refine .inl ⟨by rfl, ?_⟩
            intro m' w' hg hag
            go_simp
            exact ⟨rfl, hg.pure _ _ (by decide) (by decide)⟩
          intro K hK
          rintro _ rfl
          go_simp
          refine hK _ _ ?_
          clear hK K
          refine wpMadeG_step ?_ ?_
          · refine .inl ⟨by rfl, ?_⟩
            intro m' w' hg hag
            go_simp
            exact ⟨rfl, hg.pure _ _ (by decide) (by decide)⟩
          intro K hK
          rintro _ rfl
          go_simp
          refine hK _ _ ?_
          clear hK K
          refine wpMadeG_step ?_ ?_
          · refine .inl ⟨by rfl, ?_⟩
            intro m' w' hg hag
            have q1 := (Exists.choose_spec hg.sh).cmet rfl HQ.out
            go_simp
            exact ⟨rfl, hg.pure _ _ (by decide) (by decide)⟩
          intro K hK
          rintro _ rfl
          go_simp
          refine hK _ _ ?_
          clear hK K
          refine wpMadeG_step ?_ ?_
          · refine .inl ⟨by rfl, ?_⟩
            intro m' w' hg hag
            go_simp
            exact (hg.look fun S hC => HD.out _ S hC).mono fun e w3 ⟨he, h3⟩ => ⟨_, he, rfl, h3.pure _ _ (by decide) (by decide)⟩
          intro K hK
          rintro _ rfl
          go_simp
          refine hK _ _ ?_
          clear hK K
          refine wpMadeG_step ?_ ?_
          · refine .inl ⟨by rfl, ?_⟩
            intro m' w' hg hag
            go_simp
            exact ⟨rfl, hg.pure _ _ (by decide) (by decide)⟩
          intro K hK
          rintro _ rfl
          go_simp
          refine hK _ _ ?_
          clear hK K
          refine wpMadeG_step ?_ ?_
          · refine .inl ⟨by rfl, ?_⟩
            intro m' w' hg hag
            go_simp
            exact ⟨rfl, hg.pure _ _ (by decide) (by decide)⟩
          intro K hK
          rintro _ rfl
          go_simp
          refine hK _ _ ?_
          clear hK K
          refine wpMadeG_step ?_ ?_
          · refine .inl ⟨by rfl, ?_⟩
            intro m' w' hg hag
            go_simp
            exact ⟨rfl, hg.pure _ _ (by decide) (by decide)⟩
          intro K hK
          rintro _ rfl
          go_simp
          refine hK _ _ ?_
          clear hK K
          refine wpMadeG_step ?_ ?_
          · refine .inl ⟨by rfl, ?_⟩
            intro m' w' hg hag
            have h6 := hag 12 (.inl rfl)
            go_simp
            exact ⟨⟨_, rfl⟩, hg.made h6⟩
          intro K hK
          rintro _ ⟨kb, rfl⟩
          go_simp
          refine hK _ _ ?_
          clear hK K
          refine wpMadeG_step ?_ ?_
          · refine .inl ⟨by rfl, ?_⟩
            intro m' w' hg hag
            have h6 := hag 12 (.inr ⟨⟨12, .data⟩, by simp, by rfl, rfl⟩)
            have h7 := hag 13 (.inl rfl)
            obtain ⟨_, kg, bg⟩ := hg.six h6 h7
            obtain ⟨q0, q1, q2, q3, q4, q5, q6, qf⟩ := bg.seven
            have lt := bg.lt
            go_simp
            exact ⟨rfl, hg.stored h6 h7⟩
          intro K hK
          rintro _ rfl
          go_simp
          refine hK _ _ ?_
          clear hK K
          refine wpMadeG_nil ?_
          intro w5 hg
          obtain ⟨sg, bg⟩ := hg.done rfl rfl
          obtain ⟨d0, d1, _, _, _, _, _, _⟩ := bg.seven
          have BG := Lib.hid bg
          have f1' := (Below.refl _ w5).alloc (Nat.le_refl _) (.cells #[.int .i64 K, .int .i64 U] 3)
          have Q2 := Lib.hid (sg.qu.keep f1')
          have E1 := Lib.hid (show (w5.alloc (.cells #[.int .i64 K, .int .i64 U] 3)).cell? ⟨w5.heap.size, 0, none⟩ = some (.int .i64 K) from (Blk.new w5 #[.int .i64 K, .int .i64 U] 3).cell 0)
          have E2 := Lib.hid (show (w5.alloc (.cells #[.int .i64 K, .int .i64 U] 3)).cell? ((⟨w5.heap.size, 0, none⟩ : Addr).add 1) = some (.int .i64 U) from (Blk.new w5 #[.int .i64 K, .int .i64 U] 3).cell 1)
          have P5 : Hid (Ps w0 w w5 Z (fun j => j = kb) b s mb met Ao co out) := Lib.hid ⟨_, _, sg⟩
          have F1 := Lib.hid f1'
          clear hg sg bg f1' SH HD
          go_wp2_with (first
            | (at_builtin; (refine wpList_append_qu2 _ rfl _ _ rfl Q2.out (by omega) K U ⟨w5.heap.size, 0, none⟩ 2 rfl rfl E1.out E2.out ?_))
            | fail)
          intro A' c' w6 q6 g6
          obtain ⟨p6, k6⟩ := P5.out.app F1.out q6 g6
          have P6 := Lib.hid p6
          have BG := Lib.hid (BG.out.kp k6 rfl)
          have E6 := Lib.hid (show (met, out ++ [(K : Int), (U : Int)]) = ((tl H.now cvI met o.rs o.ss 0).1, out ++ (tl H.now cvI met o.rs o.ss 0).2) ∧ Met H met ∧ met[i]? = some q ∧ (out ++ [(K : Int), (U : Int)]).length = out.length + 2 + 0 from ⟨by rw [tl_zero, HU.out, HK.out.1], EI.out.2.1, HQ.out, by simp⟩)
          clear p6 k6 q6 g6 Q2 E1 E2 P5 F1 d0 d1
          go_wp2_with fail
          go_loopw [3, 10] (fun s3 s10 wr => ∃ (k co : Nat) (met2 out2 : List Int) (Ao : Option Addr), k ≤ K ∧ s10 = .int .i64 k ∧ s3 = .slice Ao out2.length co ∧ Hid (Ps w0 w wr Z (fun j => j = kb) b s mb met2 Ao co out2) ∧ Hid ((met2, out2) = ((tl H.now cvI met o.rs o.ss k).1, out ++ (tl H.now cvI met o.rs o.ss k).2) ∧ Met H met2 ∧ met2[i]? = some q ∧ out2.length = out.length + 2 + k) ∧ Hid (Blk wr kb (hd7 K U ag pr f1 f2 f3) 93)) (fun _ s10 _ => K - (intOf s10).toNat)
          case atStart => exact ⟨0, c', met, out ++ [(K : Int), (U : Int)], A', Nat.zero_le _, rfl, by simp, P6, E6, BG⟩
          case round =>
            clear P6 E6 BG
            obtain ⟨k, co, met2, out2, Ao, hk, rfl, rfl, PK, EK, BG⟩ := hrel
            obtain ⟨d0, d1, _, _, _, _, _, _⟩ := BG.out.seven
            by_cases hkl : k < K
            · have k1 : (k : Int) < (K : Int) := by omega
              have hx : ∃ x, (o.rs ++ o.ss)[k]? = some x := ⟨_, List.getElem?_eq_getElem (by rw [List.length_append]; have := HK.out; have := HU.out; omega)⟩
              obtain ⟨x, hx⟩ := hx
              have HX := Lib.hid hx
              obtain ⟨A2, c2, sh2⟩ := PK.out
              have l2 := (List.getElem?_eq_some_iff.1 EK.out.2.2.1).1
              obtain ⟨gq2, off2, rfl⟩ := sh2.at_ (by omega)
              have h2 : (i : Int) < (met2.length : Int) := by omega
              have GG := Lib.hid (And.intro sh2 BG.out)
              have m938 : met2.length ≤ 938 := by have := EK.out.2.1.le CY.out; have := HM.out; omega
              have lo2 : out2.length ≤ out.length + 2 + k := by have := EK.out.2.2.2; omega
              clear PK hx sh2 l2
              go_wp2_with fail
              clear d0 d1
              refine region_made_tailG (fun _ w' => Sh w0 w w' Z (fun j => j = kb) b s mb (some ⟨gq2, off2, none⟩) c2 met2 Ao co out2 ∧ Blk w' kb (hd7 K U ag pr f1 f2 f3) 93) (FdW b s.pt.a gq2 off2 met2.length c2 i q k x) 14 (by kernel_rfl) (by kernel_rfl) (FdW_some _ _ _ _ _ _ _ _ _ _) ⟨GG.out.1.keep (below_drew _), GG.out.2.keep (below_drew _)⟩ ?_
              simp only [List.take_succ_cons, List.take_zero, List.drop_succ_cons, List.drop_zero]
              refine wpMadeG_step ?_ ?_
              · refine .inl ⟨by rfl, ?_⟩
                intro m' w' hg hag
                go_simp
                first | exact rfl | exact ⟨rfl, hg⟩
              intro K hK
              rintro _ rfl
              go_simp
              refine hK _ _ ?_
              clear hK K
              refine wpMadeG_step ?_ ?_
              · refine .inl ⟨by rfl, ?_⟩
                intro m' w' hg hag
                go_simp
                first | exact rfl | exact ⟨rfl, hg⟩
              intro K hK
              rintro _ rfl
              go_simp
              refine hK _ _ ?_
              clear hK K
              refine wpMadeG_step ?_ ?_
              · refine .inl ⟨by rfl, ?_⟩
                intro m' w' hg hag
                go_simp
                first | exact rfl | exact ⟨rfl, hg⟩
              intro K hK
              rintro _ rfl
              go_simp
              refine hK _ _ ?_
              clear hK K
              refine wpMadeG_step ?_ ?_
              · refine .inl ⟨by rfl, ?_⟩
                intro m' w' hg hag
                have q1 := hg.1.c13
                go_simp
                first | exact rfl | exact ⟨rfl, hg⟩
              intro K hK
              rintro _ rfl
              go_simp
              refine hK _ _ ?_
              clear hK K
              refine wpMadeG_step ?_ ?_
              · refine .inl ⟨by rfl, ?_⟩
                intro m' w' hg hag
                have q1 := hg.1.cmb
                go_simp
                first | exact rfl | exact ⟨rfl, hg⟩
              intro K hK
              rintro _ rfl
              go_simp
              refine hK _ _ ?_
              clear hK K
              refine wpMadeG_step ?_ ?_
              · refine .inl ⟨by rfl, ?_⟩
                intro m' w' hg hag
                go_simp
                first | exact rfl | exact ⟨rfl, hg⟩
              intro K hK
              rintro _ rfl
              go_simp
              refine hK _ _ ?_
              clear hK K
              refine wpMadeG_step ?_ ?_
              · refine .inl ⟨by rfl, ?_⟩
                intro m' w' hg hag
                go_simp
                first | exact rfl | exact ⟨rfl, hg⟩
              intro K hK
              rintro _ rfl
              go_simp
              refine hK _ _ ?_
              clear hK K
              refine wpMadeG_step ?_ ?_
              · refine .inl ⟨by rfl, ?_⟩
                intro m' w' hg hag
                have q1 := hg.1.cmet rfl EK.out.2.2.1
                go_simp
                first | exact rfl | exact ⟨rfl, hg⟩
              intro K hK
              rintro _ rfl
              go_simp
              refine hK _ _ ?_
              clear hK K
              refine wpMadeG_step ?_ ?_
              · refine .inl ⟨by rfl, ?_⟩
                intro m' w' hg hag
                go_simp
                first | exact rfl | exact ⟨rfl, hg⟩
              intro K hK
              rintro _ rfl
              go_simp
              refine hK _ _ ?_
              clear hK K
              refine wpMadeG_step ?_ ?_
              · refine .inl ⟨by rfl, ?_⟩
                intro m' w' hg hag
                go_simp
                exact (hg.1.look fun S hC => field13 hC CY.out HO.out HX.out).mono fun e w3 ⟨he, h3, kp⟩ => ⟨_, he, rfl, h3, hg.2.kp kp rfl⟩
              intro K hK
              rintro _ rfl
              go_simp
              refine hK _ _ ?_
              clear hK K
              refine wpMadeG_step ?_ ?_
              · refine .inl ⟨by rfl, ?_⟩
                intro m' w' hg hag
                go_simp
                first | exact rfl | exact ⟨rfl, hg⟩
              intro K hK
              rintro _ rfl
              go_simp
              refine hK _ _ ?_
              clear hK K
              refine wpMadeG_step ?_ ?_
              · refine .inl ⟨by rfl, ?_⟩
                intro m' w' hg hag
                go_simp
                first | exact rfl | exact ⟨rfl, hg⟩
              intro K hK
              rintro _ rfl
              go_simp
              refine hK _ _ ?_
              clear hK K
              refine wpMadeG_step ?_ ?_
              · refine .inl ⟨by rfl, ?_⟩
                intro m' w' hg hag
                go_simp
                first | exact rfl | exact ⟨rfl, hg⟩
              intro K hK
              rintro _ rfl
              go_simp
              refine hK _ _ ?_
              clear hK K
              refine wpMadeG_step ?_ ?_
              · refine .inl ⟨by rfl, ?_⟩
                intro m' w' hg hag
                go_simp
                first | exact rfl | exact ⟨rfl, hg⟩
              intro K hK
              rintro _ rfl
              go_simp
              refine hK _ _ ?_
              clear hK K
              refine wpMadeG_nil ?_
              intro w7 hg
              obtain ⟨sg, bg⟩ := hg
              obtain ⟨d0, d1, _, _, _, _, _, _⟩ := bg.seven
              have BG := Lib.hid bg
              have P7 : Hid (Ps w0 w w7 Z (fun j => j = kb) b s mb met2 Ao co out2) := Lib.hid ⟨_, _, sg⟩
              clear sg bg GG
              by_cases hr : k < U
              · have k2 : (k : Int) < (U : Int) := by omega
                have hr2 : o.rs[k]? = some x := by have := HX.out; rwa [List.getElem?_append_left (by rw [HU.out]; exact hr)] at this
                have ok := CY.out.inv.ref q o HO.out x (List.mem_of_getElem? hr2)
                have bx : 0 ≤ x ∧ x ≤ 1048576 := by
                  obtain ⟨A3, c3, sh3⟩ := P7.out
                  obtain ⟨S3, hC3⟩ := sh3.mw.1.cr
                  exact CY.out.sim.bound CY.out.inv hC3.wl ok
                have hw : IntKind.i64.wrap x = x := IntWalk.i64_in _ (by omega)
                have HE := Lib.hid (P7.out.meet CY.out ok (by omega))
                have EN := Lib.hid (show ((meet H.now met2 x).1, out2 ++ [(meet H.now met2 x).2]) = ((tl H.now cvI met o.rs o.ss (k + 1)).1, out ++ (tl H.now cvI met o.rs o.ss (k + 1)).2) ∧ Met H (meet H.now met2 x).1 ∧ (meet H.now met2 x).1[i]? = some q ∧ (out2 ++ [(meet H.now met2 x).2]).length = out.length + 2 + (k + 1) from by
                  have e := EK.out.1
                  injection e with e1 e2
                  refine ⟨by rw [tl_ref hr2, ← e1, e2]; simp, meet_met CY.out.inv EK.out.2.1 ok, meet_at EK.out.2.2.1, by rw [List.length_append, EK.out.2.2.2]; rfl⟩)
                clear hr2 ok P7 EK HX
                go_wp2_with fail
                refine HE.out.mono ?_
                rintro e w8 ⟨r, rfl, hr, p8, kp8⟩
                rw [← hr] at EN
                have f1' := (Below.refl _ w8).alloc (Nat.le_refl _) (.cells #[.int .i64 r] 3)
                have Q2 := Lib.hid (p8.qu.keep f1')
                have E2 := Lib.hid (show (w8.alloc (.cells #[.int .i64 r] 3)).cell? ⟨w8.heap.size, 0, none⟩ = some (.int .i64 r) from (Blk.new w8 #[.int .i64 r] 3).cell 0)
                have P8 := Lib.hid p8
                have F1 := Lib.hid f1'
                have BG := Lib.hid (BG.out.kp kp8 rfl)
                generalize (meet H.now met2 x).1 = met3 at *
                clear p8 kp8 f1' HE hr d0 d1
                go_wp2_with (first
                  | (at_builtin; (refine wpList_append_qu _ rfl _ _ rfl Q2.out (by omega) r ⟨w8.heap.size, 0, none⟩ 1 rfl rfl E2.out ?_))
                  | fail)
                intro A' c' w9 q9 g9
                obtain ⟨p9, k9⟩ := P8.out.app F1.out q9 g9
                have P9 := Lib.hid p9
                have BG := Lib.hid (BG.out.kp k9 rfl)
                clear p9 k9 q9 g9 Q2 E2 P8 F1
                go_wp2
                go_roundw
                case rel => exact ⟨k + 1, c', met3, out2 ++ [r], A', by omega, by go_num, by simp, P9, EN, BG⟩
                case measure => simp [intOf]; omega
              · have k2 : ¬ (k : Int) < (U : Int) := by omega
                have hs2 : o.ss[k - o.rs.length]? = some x := by have := HX.out; rwa [List.getElem?_append_right (by rw [HU.out]; omega)] at this
                obtain ⟨r, hr⟩ : ∃ r, IntKind.i64.wrap x = r := ⟨_, rfl⟩
                have EN := Lib.hid (show (met2, out2 ++ [r]) = ((tl H.now cvI met o.rs o.ss (k + 1)).1, out ++ (tl H.now cvI met o.rs o.ss (k + 1)).2) ∧ Met H met2 ∧ met2[i]? = some q ∧ (out2 ++ [r]).length = out.length + 2 + (k + 1) from by
                  have e := EK.out.1
                  injection e with e1 e2
                  refine ⟨by rw [tl_sca (by rw [HU.out]; omega) hs2, ← e1, e2, ← hr]; simp, EK.out.2.1, EK.out.2.2.1, by rw [List.length_append, EK.out.2.2.2]; rfl⟩)
                have f1' := (Below.refl _ w7).alloc (Nat.le_refl _) (.cells #[.int .i64 r] 3)
                have Q2 := Lib.hid (P7.out.qu.keep f1')
                have E2 := Lib.hid (show (w7.alloc (.cells #[.int .i64 r] 3)).cell? ⟨w7.heap.size, 0, none⟩ = some (.int .i64 r) from (Blk.new w7 #[.int .i64 r] 3).cell 0)
                have F1 := Lib.hid f1'
                clear hs2 f1' EK HX
                go_wp2_with (first
                  | (at_builtin; (refine wpList_append_qu _ rfl _ _ rfl Q2.out (by omega) r ⟨w7.heap.size, 0, none⟩ 1 rfl rfl E2.out ?_))
                  | fail)
                intro A' c' w9 q9 g9
                obtain ⟨p9, k9⟩ := P7.out.app F1.out q9 g9
                have P9 := Lib.hid p9
                have BG := Lib.hid (BG.out.kp k9 rfl)
                clear p9 k9 q9 g9 Q2 E2 P7 F1 d0 d1
                go_wp2
                go_roundw
                case rel => exact ⟨k + 1, c', met2, out2 ++ [r], A', by omega, by go_num, by simp, P9, EN, BG⟩
                case measure => simp [intOf]; omega
            · obtain rfl : k = K := by omega
              have EN := Lib.hid (show told H.now cvI H.dat (938 - (i + 1)) (i + 1) met2 out2 = R ∧ Met H met2 ∧ out2.length ≤ 64 + 66 * (i + 1) from by
                have e := EK.out.1
                have ek := HK.out.1
                rw [ek, ← HU.out, tl_end] at e
                injection e with e1 e2
                refine ⟨?_, EK.out.2.1, by have := EK.out.2.2.2; omega⟩
                have t := EI.out.1
                rw [show 938 - i = (938 - (i + 1)) + 1 by omega, told_step HQ.out, ED.out, ← e1, ← e2] at t
                exact t)
              have PN : Hid (Ps w0 w wr Z noZ b s mb met2 Ao co out2) := Lib.hid (PK.out.turn (Below.refl _ _) fun _ e => e.elim)
              clear EK PK BG EI HQ HO ED
              go_wp2
              go_roundw
              case rel => exact ⟨i + 1, co, met2, out2, Ao, by omega, by go_num, rfl, PN, EN⟩
              case measure => simp [intOf]; omega
        · have h1 : ¬ (i : Int) < (met.length : Int) := by omega
          have RE : Hid (∃ A c n, (.returned (.slice Ao out.length co) : Ending) = .returned (.slice A n c) ∧ Qu wr A n c R ∧ n ≤ 1048576 ∧ Km w0 wr (fun k => Z k ∨ blkOf A = some k) b s ∧ Kp Z w wr) := Lib.hid (by
            have e := EI.out.1
            rw [told_done _ _ (List.getElem?_eq_none (by omega))] at e
            refine ⟨Ao, co, out.length, rfl, by rw [← e]; exact SH.out.qu, by have := EI.out.2.2; omega, SH.out.mw.1.grow (Below.refl _ _) fun k hk => ?_, SH.out.kp⟩
            rcases hk with e | e
            · exact .inl (.inl (.inl e))
            · exact .inl (.inl (.inr (.inr e))))
          clear SH EI
          go_wp2
          go_ret
          exact RE.out
end Gc
end Go.Proofs.YthmhehehomieiaaGreat

/- The walk of MinorGrows. -/
namespace Go.Proofs.YthmhehehomieiaaGreat
namespace Gc
open Go.RowKit

theorem at_of {s : Co} {j : Nat} {p : Int} (h : s.hs[j]? = some p) : s.has j = true ∧ s.at_ j = p := by
  have lt := (List.getElem?_eq_some_iff.1 h).1
  have e : s.has (j : Int) = true := by
    unfold Co.has
    rw [decide_eq_true (by omega : (0 : Int) ≤ j), decide_eq_true (by omega : (j : Int) < s.hs.length)]
    rfl
  refine ⟨e, ?_⟩
  unfold Co.at_
  rw [if_pos e, Int.toNat_natCast, List.getD_eq_getElem?_getD, h]
  rfl

section
variable {w0 w w' : World} {Z : Nat → Prop} {b gb H : Nat} {cf : Cfg} {s : Co} {A : Hp} {p k : Int} {o : Ob}

/-- What is marked is little. -/
theorem rest_few {S : Nat → Prop} (hC : Cr w b S s) (h48 : s.cf.ps * s.cf.pz ≤ 48 * s.cf.cd) (hb : s.cf.bf ≤ 3) : s.ry.length + s.rn.count true ≤ 51 := by
  obtain ⟨m, c0⟩ := hC.marks
  have cl := List.count_le_length (a := true) (l := s.rn)
  have e : s.W0 = s.cf.ps * s.cf.pz := rfl
  have lt : (s.W0 + s.cf.cd - 1) / s.cf.cd < 49 := Int.ediv_lt_of_lt_mul (by omega) (by omega)
  obtain ⟨P, own, h0, rfl, rfl⟩ := hC
  obtain ⟨q, hp, ho⟩ := h0.prt 4
  obtain ⟨Ab, cb, hb, _⟩ := hp.rest.buf
  have f1 := hb.few
  omega

/-- One object beside the configuration. -/
def GrI (w0 w : World) (b gb : Nat) (cf : Cfg) (H : Nat) (j : Int) (s : Co) (A : Hp) (p : Int) (o : Ob) : Prop :=
  Km w0 w (fun k => k = gb) b s ∧ OneS j s A p o ∧ s.cf = cf ∧ s.hs.length = H ∧ Blk w gb (cfgL cf) 23
def GrX (w0 w : World) (b gb : Nat) (cf : Cfg) (H : Nat) (j : Int) : Prop := ∃ s A p o, GrI w0 w b gb cf H j s A p o

theorem GrI.keep {j : Int} (h : GrI w0 w b gb cf H j s A p o) (f : Below w.heap.size w w') : GrI w0 w' b gb cf H j s A p o := ⟨h.1.keep f, h.2.1, h.2.2.1, h.2.2.2.1, h.2.2.2.2.keep f⟩

/-- A new core has made one object. -/
def GrM (w0 w : World) (b gb : Nat) (cf : Cfg) (H : Nat) : Prop :=
  ∃ s A p o, Km w0 w (fun k => k = gb) b s ∧ Cyc s A ∧ s.mv = false ∧ s.cf = cf ∧ s.hs.length = H ∧ Blk w gb (cfgL cf) 23 ∧ s.hs[0]? = some p ∧ (∀ q ∈ s.hs, q = 0 ∨ q = p) ∧ A.ob p = some o ∧ o.rs = [0] ∧ o.ss = [] ∧ o.age = 0 ∧ A.F = [p] ∧ A.O = [] ∧ Clr s

theorem gr_make {pt : Pts} (h : Km w0 w (fun k => k = gb) b (Co.fresh cf pt)) (hm : cf.May) (bx : Blk w gb (cfgL cf) 23) (n24 : 3 ≤ cf.nu) (l1 : 1 ≤ cf.lg) (h2 : 1 ≤ cf.ha) (z16 : 16 ≤ cf.pz) (p1 : 1 ≤ cf.ps) (t7 : cf.tn ≤ 7) :
    Calls Tryz.prog 33 #[ptr b, .int .i64 0, .int .i64 1, .int .i64 0] w fun e w' => e = .returned (.int .i64 0) ∧ GrM w0 w' b gb cf cf.ha.toNat := by
  have c := fresh_cyc hm pt
  have hz : (Co.fresh cf pt).hs = zeros cf.ha := rfl
  have zl : (zeros cf.ha).length = cf.ha.toNat := zeros_length _
  have e0 : (Co.fresh cf pt).has 0 = true := has_of (Int.le_refl _) (by rw [hz, zl]; omega)
  refine (km_make h c (nb_fresh.few (by omega)) 0 1 0 (by omega)).mono ?_
  rintro e w' ⟨s', B, E, he, q, k2, p2⟩
  have r0 : (Hp.none_ cf.ha).rest = 0 := rfl
  obtain ⟨rfl, es, eB⟩ := q.ent.make_yes e0 (by omega) (Int.le_refl _) (by show (1 : Int) ≤ cf.lg - 0; omega) (by rw [r0]; show (1 : Int) + 0 + 2 ≤ cf.nu - 0 - ((0 : Nat) : Int); omega)
  have eh : s'.hs = (zeros cf.ha).set 0 (Co.fresh cf pt).next := by rw [es]; rfl
  have ep : s'.pgs = List.replicate cf.ps.toNat Pg.free := by rw [es]; rfl
  refine ⟨he, s', B, (Co.fresh cf pt).next, (Co.fresh cf pt).newOb 1 0, k2, q.cyc, q.mv, q.cf, by rw [eh, List.length_set, zl], bx.kp p2 rfl, ?_, fun x hx => ?_, by rw [eB]; show upd (Hp.none_ cf.ha).ob (Co.fresh cf pt).next _ (Co.fresh cf pt).next = _; exact upd_self, rfl, rfl, rfl, by rw [eB]; rfl, by rw [eB]; rfl, ?_⟩
  · rw [eh, List.getElem?_set_self (by rw [zl]; omega)]
  · rw [eh] at hx
    rcases List.mem_or_eq_of_mem_set hx with e | e
    · exact .inl (List.mem_replicate.1 e).2
    · exact .inr e
  · refine ⟨by rw [q.cf]; exact z16, by rw [q.cf]; exact t7, by rw [ep, List.length_replicate]; omega, fun g hg => ?_⟩
    rw [ep] at hg
    exact (List.mem_replicate.1 hg).2

theorem GrM.set (h : GrM w0 w b gb cf H) (t0 : 1 ≤ cf.tn) :
    Calls Tryz.prog 41 #[ptr b, .int .i64 0, .int .i64 0, .int .i64 0] w fun e w' => e = .returned (.int .i64 0) ∧ GrX w0 w' b gb cf H 0 := by
  obtain ⟨s, A, p, o, k, c, hm, ec, hl, bx, h0, hs, ob, rs, ss, ag, hF, hO, cl⟩ := h
  obtain ⟨e0, ea⟩ := at_of h0
  have e0 : s.has 0 = true := e0
  have ea : s.at_ 0 = p := ea
  have p0 := c.inv.ob_pos ob
  refine (km_set k c 0 0 0).mono ?_
  rintro e w' ⟨s', B, E, he, q, k2, p2⟩
  obtain ⟨rfl, es, eB⟩ := q.ent.set_yes e0 (by rw [ea]; omega) (by rw [ea]; exact ob) e0 (by rw [rs]; rfl) (by rw [hO]; simp)
  rw [ea] at eB
  have eh : s'.hs = s.hs := by rw [es]; rfl
  refine ⟨he, s', B, p, { o with rs := o.rs.set (0 : Int).toNat p }, k2, ⟨q.cyc, q.mv.trans hm, by rw [eh]; exact h0, by rw [eh]; exact hs, by rw [eB]; exact upd_self, by rw [rs]; rfl, ss, .inl ⟨by rw [eB]; exact hF, by rw [eB]; exact hO, ag, by rw [q.cf, ec]; omega, ?_⟩⟩, q.cf.trans ec, by rw [eh]; exact hl, bx.kp p2 rfl⟩
  unfold Clr at cl ⊢
  rw [q.cf, show s'.pgs = s.pgs from by rw [es]; rfl]
  exact cl

/-- Within a cycle: so far n steps. -/
def GrE (w0 w : World) (b gb : Nat) (cf : Cfg) (H : Nat) (k : Int) (n : Nat) (mv : Bool) : Prop :=
  ∃ t B, Km w0 w (fun k => k = gb) b t ∧ t.cf = cf ∧ t.mv = mv ∧ t.hs.length = H ∧ Blk w gb (cfgL cf) 23 ∧
    (mv = true → Cyc t B ∧ Mid k t B ∧ left_ t B + n ≤ 60 ∧ ∃ G f m, OneG G m ∧ Rep B G f) ∧ (mv = false → ∃ p o, OneS (k + 1) t B p o)

theorem GrI.start (h : GrI w0 w b gb cf H k s A p o) (h48 : cf.ps * cf.pz ≤ 48 * cf.cd) (hb : cf.bf ≤ 3) :
    Calls Tryz.prog 52 #[ptr b] w fun e w' => e = .returned (.bool true) ∧ GrE w0 w' b gb cf H k 0 true := by
  obtain ⟨km, on, ec, hl, bx⟩ := h
  have fw : s.ry.length + s.rn.count true ≤ 51 := by
    obtain ⟨S, hC⟩ := km.cr
    exact rest_few hC (by rw [ec]; exact h48) (by rw [ec]; exact hb)
  have fF : A.F.length ≤ 1 := by
    rcases on.gen with ⟨e, _⟩ | ⟨e, _⟩ <;> rw [e] <;> simp
  refine (km_start km on.cyc).mono ?_
  rintro e w' ⟨s', B, he, q, k2, p2⟩
  rw [on.mv] at he
  obtain ⟨pr, lf⟩ := q.begun on.mv
  obtain ⟨f', r'⟩ := q.rep _ _ (Inv.own on.cyc.inv)
  have hl2 : s'.hs.length = H := by
    have e1 := congrArg List.length r'.hs
    rw [List.length_map, List.length_map, q.cyc.sim.hs] at e1
    have e2 : A.gph.hs.length = A.hs.length := List.length_map ..
    rw [e1, e2, on.cyc.sim.hs, hl]
  exact ⟨he, s', B, k2, q.cf.trans ec, q.mv, hl2, bx.kp p2 rfl, fun _ => ⟨q.cyc, pr.mid on.mid, by omega, _, f', p, on.graph, r'⟩, fun e => nomatch e⟩

variable {n : Nat} {mv : Bool}
theorem GrE.moving (h : GrE w0 w b gb cf H k n mv) : w.cell? ⟨b, 21, none⟩ = some (.bool mv) := by
  obtain ⟨s, A, k, _, rfl, _⟩ := h
  exact km_moving k
theorem GrE.few (h : GrE w0 w b gb cf H k n true) : n ≤ 60 := by
  obtain ⟨s, A, k, _, _, _, _, h1, _⟩ := h
  have := (h1 rfl).2.2.1
  omega
theorem GrE.step (h : GrE w0 w b gb cf H k n true) : Calls Tryz.prog 50 #[ptr b] w fun e w' => ∃ m y, e = .returned (.tuple #[.int .i64 m, .bool y]) ∧ GrE w0 w' b gb cf H k (n + 1) y := by
  obtain ⟨s, A, km, ec, hm, hl, bx, h1, _⟩ := h
  obtain ⟨c, md, lf, G, f, m, og, rp⟩ := h1 rfl
  refine (km_step km c).mono ?_
  rintro e w' ⟨s', B, m', y, he, q, k2, p2⟩
  obtain ⟨_, _, q1, q2⟩ := q.yes hm
  refine ⟨m', y, he, s', B, k2, q.cf.trans ec, q.mv, by rw [q.hs]; exact hl, bx.kp p2 rfl, fun e => ?_, fun e => ?_⟩
  · obtain ⟨l1, _, pr⟩ := q1 e
    obtain ⟨f', r'⟩ := q.rep G f rp
    exact ⟨q.cyc, pr.mid md, by omega, G, f', m, og, r'⟩
  · obtain ⟨_, ⟨l, rfl⟩, rfl, r'⟩ := q2 e
    exact OneS.back md q.cyc (q.mv.trans e) og (r' G f rp)
theorem GrE.done (h : GrE w0 w b gb cf H k n false) : GrX w0 w b gb cf H (k + 1) := by
  obtain ⟨s, A, km, ec, hm, hl, bx, _, h1⟩ := h
  obtain ⟨p, o, on⟩ := h1 rfl
  exact ⟨s, A, p, o, km, on, ec, hl, bx⟩

theorem tget_co (h : Km w0 w Z b s) {j : Nat} {x : Int} (hx : s.hs[j]? = some x) : w.cell? ⟨b, 18, none⟩ = some (htP s.pt.t) ∧ Calls Tryz.prog 53 #[htP s.pt.t, .int .i64 j] w fun e w' => e = .returned (.tuple #[.int .i64 x, .int .i64 0]) ∧ w = w' := by
  obtain ⟨S, hC⟩ := h.cr
  obtain ⟨P, own, h0, rfl, rfl⟩ := hC
  have e : s.pt.t = P.t := by rw [h0.pts]; rfl
  rw [e]
  obtain ⟨tg, ht, _⟩ := h0.prt 6
  exact ⟨h0.cell 18, tbGet_yes _ _ _ _ _ ht j hx⟩
theorem km_same (h : Km w0 w Z b s) {a f : Int} (e0 : s.has a = true) (e1 : s.has f = true) (e : s.at_ a = s.at_ f) :
    Calls Tryz.prog 43 #[ptr b, .int .i64 a, .int .i64 f] w fun e w' => e = .returned (.tuple #[.bool true, .int .i64 0]) ∧ w = w' := by
  obtain ⟨S, hC⟩ := h.cr
  have q := same_yes hC f e0 e1
  rw [decide_eq_true e] at q
  exact q
/-- What the first one refers to is held by the second handle, too. -/
theorem GrI.get (h : GrI w0 w b gb cf H k s A p o) (h2 : 2 ≤ H) : Calls Tryz.prog 35 #[ptr b, .int .i64 1, .int .i64 0, .int .i64 0] w fun e w' => e = .returned (.int .i64 0) ∧ ∃ s' B, GrI w0 w' b gb cf H k s' B p o ∧ s'.hs[1]? = some p := by
  obtain ⟨km, on, ec, hl, bx⟩ := h
  obtain ⟨e0, ea⟩ := at_of on.h0
  have e0 : s.has 0 = true := e0
  have ea : s.at_ 0 = p := ea
  have e1 : s.has 1 = true := has_of (by omega) (by omega)
  have p0 := on.cyc.inv.ob_pos on.ob
  refine (km_get km on.cyc 1 0 0).mono ?_
  rintro e w' ⟨s', B, E, he, q, k2, p2⟩
  obtain ⟨rfl, es, eB⟩ := q.ent.get_yes (q := p) e0 (by rw [ea]; omega) (by rw [ea]; exact on.ob) e1 (Int.le_refl _) (by rw [on.rs]; rfl) (on.cyc.idle on.mv).1
  have eh : s'.hs = s.hs.set 1 p := by rw [es]; rfl
  have ep : s'.pgs = s.pgs := by rw [es]; rfl
  have eb : B.ob = A.ob ∧ B.F = A.F ∧ B.O = A.O := by rw [eB]; exact ⟨rfl, rfl, rfl⟩
  have cl : Clr s → Clr s' := fun c => by unfold Clr at c ⊢; rw [q.cf, ep]; exact c
  refine ⟨he, s', B, ⟨k2, ⟨q.cyc, q.mv.trans on.mv, by rw [eh, List.getElem?_set_ne (by omega)]; exact on.h0, fun x hx => ?_, by rw [eb.1]; exact on.ob, on.rs, on.ss, ?_⟩, q.cf.trans ec, by rw [eh, List.length_set]; exact hl, bx.kp p2 rfl⟩, by rw [eh, List.getElem?_set_self (by omega)]⟩
  · rw [eh] at hx
    rcases List.mem_or_eq_of_mem_set hx with e | e
    · exact on.hs x e
    · exact .inr e
  · rw [eb.2.1, eb.2.2, q.cf]
    exact on.gen.imp (fun ⟨a1, a2, a3, a4, a5⟩ => ⟨a1, a2, a3, a4, cl a5⟩) id
end
end Gc
end Go.Proofs.YthmhehehomieiaaGreat

/- The walk of MinorGrows. -/
namespace Go.Proofs.YthmhehehomieiaaGreat
namespace Gc
open Go.RowKit

theorem grows_cfg (a b c d : Int) (ha : By a) (hb : By b) (hc : By c) (hd : By d) : (cfgOf a b c d).ps * (cfgOf a b c d).pz ≤ 48 * (cfgOf a b c d).cd ∧ (cfgOf a b c d).bf ≤ 3 ∧ 3 ≤ (cfgOf a b c d).nu ∧ 1 ≤ (cfgOf a b c d).lg ∧ 2 ≤ (cfgOf a b c d).ha ∧ (cfgOf a b c d).ha ≤ 6 ∧ 16 ≤ (cfgOf a b c d).pz ∧ 1 ≤ (cfgOf a b c d).ps ∧ 1 ≤ (cfgOf a b c d).tn ∧ (cfgOf a b c d).tn ≤ 3 := by
  obtain ⟨a0, a1⟩ := ha
  obtain ⟨b0, b1⟩ := hb
  obtain ⟨c0, c1⟩ := hc
  obtain ⟨d0, d1⟩ := hd
  refine ⟨?_, by show c / 4 % 4 ≤ 3; omega, by show 3 ≤ 24 + b % 60; omega, by show 1 ≤ d % 8 + 1; omega, by show 2 ≤ a % 5 + 2; omega, by show a % 5 + 2 ≤ 6; omega, by show 16 ≤ 16 + 16 * (a / 64); omega, by show 1 ≤ b / 16 % 12 + 1; omega, by show 1 ≤ c / 64 % 3 + 1; omega, by show c / 64 % 3 + 1 ≤ 3; omega⟩
  show (b / 16 % 12 + 1) * (16 + 16 * (a / 64)) ≤ 48 * ((16 + 16 * (a / 64)) / dvK c)
  have q : a / 64 = 0 ∨ a / 64 = 1 ∨ a / 64 = 2 ∨ a / 64 = 3 := by omega
  rcases q with e | e | e | e <;> rw [e] <;> rcases dvK_in c with h | h | h <;> rw [h] <;> omega

set_option maxHeartbeats 3000000 in
set_option maxRecDepth 100000 in
theorem minorGrows_walk (a b c d tm : Int) (ha : By a) (hb : By b) (hc : By c) (hd : By d) (ht : By tm) (w : World) :
    Calls Tryz.prog 14 #[.int .u8 a, .int .u8 b, .int .u8 c, .int .u8 d, .int .u8 tm] w fun e w' => e = .returned (.bool true) ∧ Below w.heap.size w w' := by
  have SM := Lib.hid (grows_cfg a b c d ha hb hc hd)
  have HC := Lib.hid (config14_any a b c d ha hb hc hd)
  have HM := Lib.hid (cfgOf_may a b c d ha hb hc hd)
  obtain ⟨t0, t1⟩ := ht
  obtain ⟨T, hT⟩ : ∃ T : Nat, tm % 12 = T := ⟨(tm % 12).toNat, by omega⟩
  have hTt : tm.tmod 12 = T := by rw [Int.tmod_eq_emod_of_nonneg t0]; exact hT
  have T11 : T ≤ 11 := by omega
  clear ha hb hc hd t1
  generalize cfgOf a b c d = cf at *
  go_enter Tryz.func14, Tryz.ntmps14
  go_wp2_with fail
  refine (HC.out _).mono ?_
  rintro e w1 ⟨rfl, b1⟩
  have B1 := Lib.hid b1
  clear b1 HC
  go_wp2_with fail
  refine (km_new (w0 := w) (Z := fun k => k = w1.heap.size) HM.out (B1.out.alloc B1.out.size _) (fun k e => ⟨by have := B1.out.size; omega, by subst e; simp⟩)).mono ?_
  rintro e w2 ⟨b0, pt, rfl, k2, p2⟩
  have X2 := Lib.hid ((Blk.new w1 (cfgL cf) 23).kp p2 rfl)
  have K2 := Lib.hid k2
  clear k2 p2 B1
  go_wp2_with fail
  refine (awake14_walk _).mono ?_
  rintro e w3 ⟨rfl, b3⟩
  obtain ⟨s1, s2, s3, s4, s5, s5b, s6, s7, s8, s9⟩ := SM.out
  have HK := Lib.hid (gr_make (K2.out.keep b3) HM.out (X2.out.keep b3) s3 s4 (by omega) s6 s7 (by omega))
  clear b3 K2 HM X2
  generalize w1.heap.size = gb at *
  obtain ⟨H, hH⟩ : ∃ H, cf.ha.toNat = H := ⟨_, rfl⟩
  rw [hH] at HK
  have H2 : 2 ≤ H := by omega
  clear hH
  go_wp2_with fail
  refine HK.out.mono ?_
  rintro e w4 ⟨rfl, m4⟩
  have M4 := Lib.hid (m4.set s8)
  clear m4 HK
  go_wp2_with fail
  refine M4.out.mono ?_
  rintro e w5 ⟨rfl, g5⟩
  have GX := Lib.hid g5
  clear g5 M4
  go_wp2_with fail
  go_loopw [14] (fun s14 wr => ∃ k : Nat, k ≤ T ∧ s14 = .int .i64 ((k : Int) + 1) ∧ Hid (GrX w wr b0 gb cf H k)) (fun s14 _ => T + 2 - (intOf s14).toNat)
  case atStart => exact ⟨0, Nat.zero_le _, rfl, GX⟩
  case round =>
    clear GX
    obtain ⟨k, hk, rfl, GX⟩ := hrel
    by_cases hlt : k < T
    · have h1 : (k : Int) + 1 ≤ (T : Int) := by omega
      obtain ⟨s, A, p, o, g⟩ := GX.out
      have HS := Lib.hid (g.start s1 s2)
      clear g GX
      go_wp2_with fail
      refine HS.out.mono ?_
      rintro e w6 ⟨rfl, f6⟩
      have F6 := Lib.hid f6
      clear f6 HS
      clear s A p o
      go_wp2_with fail
      generalize wr = wo at *
      go_loopw [15] (fun s15 wr => ∃ (n : Nat) (mv : Bool), n ≤ 61 ∧ s15 = .int .i64 n ∧ Hid (GrE w wr b0 gb cf H k n mv)) (fun s15 _ => 100 - (intOf s15).toNat)
      case atStart => exact ⟨0, true, by omega, rfl, F6⟩
      case round =>
        clear F6
        obtain ⟨n, mv, hn, rfl, FJ⟩ := hrel
        have c21 := FJ.out.moving
        have j3 : (n : Int) < 100 := by omega
        cases mv
        · obtain ⟨s, A, p, o, g⟩ := FJ.out.done
          have G := Lib.hid g
          obtain ⟨c18, tg⟩ := tget_co g.1 g.2.1.h0
          have TG : Hid (Calls Tryz.prog 53 #[htP s.pt.t, .int .i64 0] wr fun e w' => e = .returned (.tuple #[.int .i64 p, .int .i64 0]) ∧ wr = w') := Lib.hid tg
          have HD := g.1.look fun S hC => head13 hC g.2.1.cyc g.2.1.ob
          have gen := g.2.1.gen
          have hec := g.2.2.1
          rw [hec] at gen
          obtain ⟨ag, hag⟩ : ∃ ag, o.age = ag := ⟨_, rfl⟩
          obtain ⟨od, hod⟩ : ∃ od, decide (p ∈ A.O) = od := ⟨_, rfl⟩
          rw [hag, hod] at HD
          rw [hag] at gen
          have GC : (od = false ∧ ag = (k : Int) + 1 ∧ ¬ cf.tn ≤ (k : Int) + 1) ∨ (od = true ∧ ag = cf.tn ∧ cf.tn ≤ (k : Int) + 1) := by
            rcases gen with ⟨_, e2, e3, e4, _⟩ | ⟨_, e2, e3, e4⟩
            · exact .inl ⟨by rw [← hod, e2]; simp, e3, by omega⟩
            · exact .inr ⟨by rw [← hod, e2]; simp, e3, e4⟩
          have HD := Lib.hid HD
          have c13 : wr.cell? ⟨b0, 13, none⟩ = some (arP s.pt.a) := by
            obtain ⟨S, hC⟩ := g.1.cr
            exact c13_of hC
          clear g tg gen hag hod FJ hec
          go_wp2_with fail
          refine TG.out.mono ?_
          rintro e w7 ⟨rfl, rfl⟩
          clear TG c18 c21
          go_wp2_with fail
          refine HD.out.mono ?_
          rintro e w8 ⟨rfl, k8, p8⟩
          have G8 : Hid (GrI w w8 b0 gb cf H (k + 1) s A p o) := Lib.hid ⟨k8, G.out.2.1, G.out.2.2.1, G.out.2.2.2.1, G.out.2.2.2.2.kp p8 rfl⟩
          clear k8 p8 HD c13 G
          have X9 := Blk.new w8 (hd7 (o.n : Nat) o.rs.length ag o.par o.grey o.noted od) 93
          have g9 := G8.out.keep ((Below.refl _ w8).alloc (Nat.le_refl _) (.cells (hd7 (o.n : Nat) o.rs.length ag o.par o.grey o.noted od) 93))
          have c7 : (w8.alloc (.cells (hd7 (o.n : Nat) o.rs.length ag o.par o.grey o.noted od) 93)).cell? ⟨gb, 7, none⟩ = some (.int .i64 cf.tn) := g9.2.2.2.2.cell 7
          have d2 : (w8.alloc (.cells (hd7 (o.n : Nat) o.rs.length ag o.par o.grey o.noted od) 93)).cell? ⟨w8.heap.size, 2, none⟩ = some (.int .i64 ag) := X9.cell 2
          have d6 : (w8.alloc (.cells (hd7 (o.n : Nat) o.rs.length ag o.par o.grey o.noted od) 93)).cell? ⟨w8.heap.size, 6, none⟩ = some (.bool od) := X9.cell 6
          obtain ⟨e0, ea⟩ := at_of g9.2.1.h0
          have HS1 := Lib.hid (km_same g9.1 (a := 0) (f := 0) e0 e0 rfl)
          have HG := Lib.hid (g9.get H2)
          clear X9 g9 G8 e0 ea
          rcases GC with ⟨rfl, rfl, hg⟩ | ⟨rfl, rfl, hg⟩
          all_goals
            go_wp2_with fail
            refine HS1.out.mono ?_
            rintro e w9 ⟨rfl, rfl⟩
            clear HS1 c7 d2 d6
            go_wp2_with fail
            refine HG.out.mono ?_
            rintro e w10 ⟨rfl, s', B, g10, h10⟩
            obtain ⟨e0, ea⟩ := at_of g10.2.1.h0
            obtain ⟨e1, eb⟩ := at_of h10
            have HS2 := Lib.hid (km_same g10.1 (a := 0) (f := 1) e0 e1 (ea.trans eb.symm))
            have GN : Hid (GrX w w10 b0 gb cf H ((k + 1 : Nat) : Int)) := Lib.hid ⟨s', B, p, o, g10⟩
            clear g10 h10 e0 ea e1 eb HG
            go_wp2_with fail
            refine HS2.out.mono ?_
            rintro e w11 ⟨rfl, rfl⟩
            clear HS2
            go_wp2
            go_roundw
            case rel => exact ⟨k + 1, by omega, by go_num, GN⟩
            case measure => simp [intOf]; omega
        · have jl := FJ.out.few
          have HS := Lib.hid FJ.out.step
          clear FJ
          go_wp2_with fail
          refine HS.out.mono ?_
          rintro e w7 ⟨m, y, rfl, f7⟩
          have F7 := Lib.hid f7
          clear f7 HS c21
          go_wp2
          go_roundw
          case rel => exact ⟨n + 1, y, by omega, by go_num, F7⟩
          case measure => simp [intOf]; omega
    · obtain rfl : k = T := by omega
      obtain ⟨s, A, p, o, g⟩ := GX.out
      have BE := Lib.hid g.1.bel
      clear g GX
      go_wp2
      go_ret
      exact ⟨rfl, BE.out⟩
end Gc
end Go.Proofs.YthmhehehomieiaaGreat

/- The Go function tilthlaw14.MinorGrows returns true for every input, and its arguments read afterwards as they read before: the given statement MinorGrowsSaid, without further conditions. -/
namespace Go.Proofs.YthmhehehomieiaaGreat
open Go.ChangeShapes Go.WideShapes Go.ChangeAt Go.RowKit Go.Deep

set_option maxRecDepth 100000 in
theorem minorGrows_lifted (os : Os) (started : os.Started) (H : Type) (enc : TypeId × Value → H) :
    ReturnsInHanded {} Tryz.checked os 14 .any (Rows.minorGrowsSpec.pre6 enc Tryz.prog Tryz.f14 Rows.minorGrowsRow.domain false) (Rows.minorGrowsSpec.post enc Tryz.prog Tryz.f14 false true false false) := by
  refine returnsInHanded_of_change (C := Tryz.checked) own started (by kernel_rfl) Tryz.func14
    (ChangeSpec.witness6 (enc := enc) (C := Tryz.checked) false ⟨#[], #[.int .u8 0, .int .u8 0, .int .u8 0, .int .u8 0, .int .u8 0], []⟩ 8 (by kernel_rfl) (by kernel_rfl) (by kernel_rfl) (by kernel_rfl)) ?_
  intro W base args ds gs before hval0 hW _ _
  have hval : ∀ (j : Nat) t v, Tryz.f14.params[j]? = some t → args[j]? = some v → Value.okWide Tryz.prog W .any base t v := hval0
  have hW0 := hW
  obtain ⟨p, q, hA0, _, _, _, _⟩ := hW
  have hA : DataW.TrodAll enc Tryz.prog W 0 (fun _ => true) true Tryz.f14.params.toList args.toList ds p := hA0
  rw [Tryz.params14] at hA hval
  obtain ⟨v0, vs0, d0, ds0, pl0, ql0, hargs, rfl, rfl, h0, r0⟩ := trodAll_cons hA
  obtain ⟨v1, vs1, d1, ds1, pl1, ql1, rfl, rfl, rfl, h1, r1⟩ := trodAll_cons r0
  obtain ⟨v2, vs2, d2, ds2, pl2, ql2, rfl, rfl, rfl, h2, r2⟩ := trodAll_cons r1
  obtain ⟨v3, vs3, d3, ds3, pl3, ql3, rfl, rfl, rfl, h3, r3⟩ := trodAll_cons r2
  obtain ⟨v4, vs4, d4, ds4, pl4, ql4, rfl, rfl, rfl, h4, r4⟩ := trodAll_cons r3
  obtain ⟨rfl, rfl, rfl⟩ := trodAll_nil r4
  obtain rfl : args = #[v0, v1, v2, v3, v4] := by cases args; simp_all
  obtain ⟨x0, rfl, rfl, rfl, wf0⟩ := open_int Tryz.underlying5 (hval 0 5 v0 rfl rfl) h0
  have bd0 : 0 ≤ x0 ∧ x0 ≤ 255 := bounds_int wf0
  obtain ⟨x1, rfl, rfl, rfl, wf1⟩ := open_int Tryz.underlying5 (hval 1 5 v1 rfl rfl) h1
  have bd1 : 0 ≤ x1 ∧ x1 ≤ 255 := bounds_int wf1
  obtain ⟨x2, rfl, rfl, rfl, wf2⟩ := open_int Tryz.underlying5 (hval 2 5 v2 rfl rfl) h2
  have bd2 : 0 ≤ x2 ∧ x2 ≤ 255 := bounds_int wf2
  obtain ⟨x3, rfl, rfl, rfl, wf3⟩ := open_int Tryz.underlying5 (hval 3 5 v3 rfl rfl) h3
  have bd3 : 0 ≤ x3 ∧ x3 ≤ 255 := bounds_int wf3
  obtain ⟨x4, rfl, rfl, rfl, wf4⟩ := open_int Tryz.underlying5 (hval 4 5 v4 rfl rfl) h4
  have bd4 : 0 ≤ x4 ∧ x4 ≤ 255 := bounds_int wf4
  exact (Gc.minorGrows_walk x0 x1 x2 x3 x4 bd0 bd1 bd2 bd3 bd4 W).mono fun e W' ⟨he, bel⟩ => ⟨_, he, law_post laidOut (by kernel_rfl) (by kernel_rfl) Tryz.underlying4 rfl
    (fun ds hds => by rw [Tryz.params14] at hds; match ds, hds with | [_, _, _, _, _], _ => rfl) hW0 bel⟩

theorem minorGrows_holds : Rows.MinorGrowsSaid :=
  OpenClaim.holds_of_wide 14 Tryz.f14 rfl rfl rfl rfl rfl rfl rfl ⟨rfl, rfl, rfl, rfl, rfl⟩ rfl rfl rfl rfl rfl (by kernel_rfl) Tryz.func14 (by kernel_rfl)
    (of_decide_eq_true (by kernel_rfl)) (by unfold Func.isWrapper; first | (rw [if_pos (by decide +kernel)]; kernel_rfl) | (rw [if_neg (by decide +kernel)]; exact ⟨rfl, rfl⟩))
    (fun os started H enc _ => minorGrows_lifted os started H enc)
#print axioms minorGrows_holds
end Go.Proofs.YthmhehehomieiaaGreat
